import PyProof.Rows.All
import Wide.All
import OpenK.AllK
import Wide.FinOn
import HandS.ForMost
import HandS.IsInst
import HandS.Wide
import HandS.Lambda
import KE.SortData
import KE.SortKeyHeap
import HandS.ExcCtx
import PyProof.ReprRoads
import PyProof.StrOps2
import HandS.Property
import KE.GoesEnum
import KE.GoesMore
import KE.KLam
import HandS.Style
import HandS.Defaults
import HandS.ClsMeth
import HandS.ForDict
import HandS.EndTab
import KE.KNestM
import KE.KCallOwn
import KE.KFmtOwn
import PyProof.Conv_bool
import HandS.MakeKw
import HandS.FStr
import PyProof.Rows.StrIntSpec
import PyProof.Rows.ReprOcc
import PyProof.ReprText
import HandS.Star
import HandS.TupAny
import HandS.GenList
import KE.DatumOrd
import HandS.SortKw
import HandS.More
import HandS.TryOnly
import OpenK.KMore
import HandS.Set
import HandS.Zip
import HandS.Rev
import HandS.Strs
import PyProof.ListRange
import PyProof.LongRange
import OpenK.KLaw
import HandS.Flow
import KE.KDictPairs
import KE.KDictZip
import HandS.Deep
import HandS.Iter
import HandS.TupLe
import HandS.CallLocal
import HandS.SetFor
import PySem.Challenge.RW_seatchains_k83_whole_true_claims_about_p
set_option Elab.async false
set_option linter.all false
set_option maxRecDepth 100000
/-! a layer of plain values over the hand layer -/
namespace Z
open PySem PySem.Spec L2
open PyProof.Rows hiding St
inductive PV where
  | non | bl (b : Bool) | int (i : Int) | str (x : Str)
  | tup (xs : List PV) | lst (xs : List PV) | scr (ns : List Int)
  | ins (C : Addr) (fs : List (Str × PV)) | dic (kvs : List (Key × PV)) | raw (v : V) | pln (xs : List PV)
abbrev PV.dic0 : PV := .dic []
section
variable (K : PySem.W.Frag)
def TupAt (O : Addr → Prop) (H : Hp) (a : Addr) (vs : List V) : Prop :=
  (¬ O a ∧ Rd H a (.tup vs)) ∨
    ∃ (o : Obj) (its : Array Value) (n : Nat), K.lookup a = some o ∧ o.cls = .type "tuple" ∧ o.data = .seq its n ∧ its.size ≤ sizeLine ∧ Vals vs its.toList
theorem TupAt.sq {K : PySem.W.Frag} {O H a vs} (h : TupAt K O H a vs) : SqT K H a vs := by
  rcases h with ⟨_, h⟩ | h
  · exact .inl h
  · exact .inr h
mutual
def Rep (O : Addr → Prop) (H : Hp) : PV → V → Prop
  | .non, v => v = .non
  | .bl b, v => v = .bl b
  | .int i, v => v = .int i
  | .str x, v => v = .str x
  | .raw u, v => v = u
  | .scr ns, v => ∃ a o, v = .ref a ∧ ¬ O a ∧ H a = some (.frz o (.lst (ns.map V.int)))
  | .tup xs, v => ∃ a vs, v = .ref a ∧ TupAt K O H a vs ∧ Reps O H xs vs
  | .lst xs, v => ∃ a vs, v = .ref a ∧ ¬ O a ∧ H a = some (.lst vs) ∧ Reps O H xs vs
  | .ins C fs, v => ∃ a dx ws, v = .ref a ∧ ¬ O a ∧ H a = some (.ins C dx ws) ∧ RepF O H fs ws
  | .dic kvs, v => ∃ a ws, v = .ref a ∧ ¬ O a ∧ H a = some (.dK ws) ∧ RepD O H kvs ws
  | .pln xs, v => ∃ a vs o, v = .ref a ∧ ¬ O a ∧ H a = some (.frz o (.tup vs)) ∧ o.dict = none ∧ Reps O H xs vs
def Reps (O : Addr → Prop) (H : Hp) : List PV → List V → Prop
  | [], vs => vs = []
  | x :: xs, vs => ∃ v us, vs = v :: us ∧ Rep O H x v ∧ Reps O H xs us
def RepF (O : Addr → Prop) (H : Hp) : List (Str × PV) → List (Str × V) → Prop
  | [], vs => vs = []
  | (n, x) :: xs, vs => ∃ v us, vs = (n, v) :: us ∧ Rep O H x v ∧ RepF O H xs us
def RepD (O : Addr → Prop) (H : Hp) : List (Key × PV) → List (Key × V) → Prop
  | [], vs => vs = []
  | (n, x) :: xs, vs => ∃ v us, vs = (n, v) :: us ∧ Rep O H x v ∧ RepD O H xs us
end
end
def Car (O O' : Addr → Prop) (H H' : Hp) : Prop := ∀ a o, ¬ O a → H a = some o → (∀ ps, o ≠ .tbl ps) → H' a = some o ∧ ¬ O' a
section
variable {K : PySem.W.Frag} {O O' : Addr → Prop} {H H' : Hp}
theorem TupAt.car {a : Addr} {vs : List V} (c : Car O O' H H') (h : TupAt K O H a vs) : TupAt K O' H' a vs := by
  rcases h with ⟨n, h | ⟨o, h⟩⟩ | h
  · exact .inl ⟨(c _ _ n h nofun).2, .inl (c _ _ n h nofun).1⟩
  · exact .inl ⟨(c _ _ n h nofun).2, .inr ⟨o, (c _ _ n h nofun).1⟩⟩
  · exact .inr h
mutual
theorem Rep.car (c : Car O O' H H') : ∀ (x : PV) (v : V), Rep K O H x v → Rep K O' H' x v
  | .non, _, h => by unfold Rep at h ⊢; exact h
  | .bl _, _, h => by unfold Rep at h ⊢; exact h
  | .int _, _, h => by unfold Rep at h ⊢; exact h
  | .str _, _, h => by unfold Rep at h ⊢; exact h
  | .raw _, _, h => by unfold Rep at h ⊢; exact h
  | .scr _, _, h => by
    unfold Rep at h ⊢
    obtain ⟨a, o, e, n, h⟩ := h
    exact ⟨a, o, e, (c _ _ n h nofun).2, (c _ _ n h nofun).1⟩
  | .dic kvs, _, h => by
    unfold Rep at h ⊢
    obtain ⟨a, ws, e, n, h, r⟩ := h
    exact ⟨a, ws, e, (c _ _ n h nofun).2, (c _ _ n h nofun).1, RepD.car c kvs ws r⟩
  | .pln xs, _, h => by
    unfold Rep at h ⊢
    obtain ⟨a, vs, o, e, n, h, d, r⟩ := h
    exact ⟨a, vs, o, e, (c _ _ n h nofun).2, (c _ _ n h nofun).1, d, Reps.car c xs vs r⟩
  | .tup xs, _, h => by
    unfold Rep at h ⊢
    obtain ⟨a, vs, e, t, r⟩ := h
    exact ⟨a, vs, e, t.car c, Reps.car c xs vs r⟩
  | .lst xs, _, h => by
    unfold Rep at h ⊢
    obtain ⟨a, vs, e, n, t, r⟩ := h
    exact ⟨a, vs, e, (c _ _ n t nofun).2, (c _ _ n t nofun).1, Reps.car c xs vs r⟩
  | .ins C fs, _, h => by
    unfold Rep at h ⊢
    obtain ⟨a, dx, ws, e, n, t, r⟩ := h
    exact ⟨a, dx, ws, e, (c _ _ n t nofun).2, (c _ _ n t nofun).1, RepF.car c fs ws r⟩
theorem Reps.car (c : Car O O' H H') : ∀ (xs : List PV) (vs : List V), Reps K O H xs vs → Reps K O' H' xs vs
  | [], _, h => by unfold Reps at h ⊢; exact h
  | x :: xs, _, h => by
    unfold Reps at h ⊢
    obtain ⟨v, us, e, r, t⟩ := h
    exact ⟨v, us, e, Rep.car c x v r, Reps.car c xs us t⟩
theorem RepF.car (c : Car O O' H H') : ∀ (xs : List (Str × PV)) (vs : List (Str × V)), RepF K O H xs vs → RepF K O' H' xs vs
  | [], _, h => by unfold RepF at h ⊢; exact h
  | (n, x) :: xs, _, h => by
    unfold RepF at h ⊢
    obtain ⟨v, us, e, r, t⟩ := h
    exact ⟨v, us, e, Rep.car c x v r, RepF.car c xs us t⟩
theorem RepD.car (c : Car O O' H H') : ∀ (xs : List (Key × PV)) (vs : List (Key × V)), RepD K O H xs vs → RepD K O' H' xs vs
  | [], _, h => by unfold RepD at h ⊢; exact h
  | (n, x) :: xs, _, h => by
    unfold RepD at h ⊢
    obtain ⟨v, us, e, r, t⟩ := h
    exact ⟨v, us, e, Rep.car c x v r, RepD.car c xs us t⟩
end
theorem Car.mono {O O' : Addr → Prop} {H : Hp} (h : ∀ a, O' a → O a) : Car O O' H H := fun a o n e _ => ⟨e, fun z => n (h a z)⟩
theorem Rep.mono {x v} (h : ∀ a, O' a → O a) (r : Rep K O H x v) : Rep K O' H x v := r.car (Car.mono h)
theorem Reps.mono {x v} (h : ∀ a, O' a → O a) (r : Reps K O H x v) : Reps K O' H x v := r.car (Car.mono h)
theorem RepF.mono {x v} (h : ∀ a, O' a → O a) (r : RepF K O H x v) : RepF K O' H x v := r.car (Car.mono h)
theorem RepD.mono {x v} (h : ∀ a, O' a → O a) (r : RepD K O H x v) : RepD K O' H x v := r.car (Car.mono h)
def Nw (H : Hp) (b : Addr) : Prop := ∀ o, H b = some o → ∃ ps, o = .tbl ps
theorem Nw.of {b : Addr} (h : H b = none) : Nw H b := fun o e => by rw [h] at e; cases e
theorem Nw.no {b : Addr} {o : HO} (n : Nw H b) (h : H b = some o) (t : ∀ ps, o ≠ .tbl ps) : False := by
  obtain ⟨ps, e⟩ := n o h
  exact t ps e
theorem nw_ne {a b : Addr} {u : HO} (z : b ≠ a) (n : Nw (upd H a u) b) : Nw H b := fun o h => n o (by rw [upd_ne z]; exact h)
theorem nw_same {a : Addr} {u : HO} (t : ∀ ps, u ≠ .tbl ps) : ¬ Nw (upd H a u) a := fun n => n.no upd_same t
theorem live_upd {a b : Addr} {u : HO} (t : ∀ ps, u ≠ .tbl ps) (n : ¬ Nw H b) : ¬ Nw (upd H a u) b := by
  by_cases z : b = a
  · rw [z]; exact nw_same t
  · exact fun q => n (nw_ne z q)
def Trk (O : Addr → Prop) (H : Hp) : Prop := ∀ a, O a → ¬ Nw H a
theorem Trk.same (t : Trk O H) (s : Same H H') : Trk O H' := fun a h e => t a h fun o q => e o (s a o q)
theorem Car.same (s : Same H H') : Car O O H H' := fun a o n e _ => ⟨s a o e, n⟩
theorem Same.new {p : Addr} {o : HO} (hp : H p = none) : Same H (upd H p o) := fun b u e => by rw [upd_ne (ne_of_none e hp)]; exact e
theorem Trk.fresh {p : Addr} (t : Trk O H) (hp : H p = none) : ¬ O p := fun h => t p h (Nw.of hp)
-- lists
theorem Reps.nil : Reps K O H [] [] := by unfold Reps; rfl
theorem Reps.cons {x xs v vs} (h : Rep K O H x v) (t : Reps K O H xs vs) : Reps K O H (x :: xs) (v :: vs) := by unfold Reps; exact ⟨v, vs, rfl, h, t⟩
theorem Reps.inv {x : PV} {xs : List PV} {vs : List V} (h : Reps K O H (x :: xs) vs) : ∃ v us, vs = v :: us ∧ Rep K O H x v ∧ Reps K O H xs us := by unfold Reps at h; exact h
theorem Reps.inv0 {vs : List V} (h : Reps K O H [] vs) : vs = [] := by unfold Reps at h; exact h
theorem Reps.len : ∀ {xs : List PV} {vs : List V}, Reps K O H xs vs → vs.length = xs.length
  | [], _, h => by rw [h.inv0]; rfl
  | x :: xs, _, h => by
    obtain ⟨v, us, rfl, _, t⟩ := h.inv
    rw [List.length_cons, List.length_cons, t.len]
theorem Reps.get : ∀ {xs : List PV} {vs : List V} {i : Nat} {x : PV}, Reps K O H xs vs → xs[i]? = some x → ∃ v, vs[i]? = some v ∧ Rep K O H x v
  | [], _, _, _, _, e => by simp at e
  | x :: xs, _, 0, _, h, e => by
    obtain ⟨v, us, rfl, r, t⟩ := h.inv
    simp at e; subst e; exact ⟨v, rfl, r⟩
  | x :: xs, _, i + 1, _, h, e => by
    obtain ⟨v, us, rfl, r, t⟩ := h.inv
    obtain ⟨u, h1, h2⟩ := t.get (i := i) (by simpa using e)
    exact ⟨u, by simpa using h1, h2⟩
theorem Reps.app : ∀ {xs ys : List PV} {vs us : List V}, Reps K O H xs vs → Reps K O H ys us → Reps K O H (xs ++ ys) (vs ++ us)
  | [], _, _, _, h, t => by rw [h.inv0]; exact t
  | x :: xs, _, _, _, h, t => by
    obtain ⟨v, us, rfl, r, q⟩ := h.inv
    exact .cons r (q.app t)
theorem Reps.take : ∀ {xs : List PV} {vs : List V} (n : Nat), Reps K O H xs vs → Reps K O H (xs.take n) (vs.take n)
  | [], _, n, h => by rw [h.inv0]; simp; exact .nil
  | x :: xs, _, 0, h => by simp; exact .nil
  | x :: xs, _, n + 1, h => by
    obtain ⟨v, us, rfl, r, q⟩ := h.inv
    exact .cons r (q.take n)
theorem Reps.drop : ∀ {xs : List PV} {vs : List V} (n : Nat), Reps K O H xs vs → Reps K O H (xs.drop n) (vs.drop n)
  | [], _, n, h => by rw [h.inv0]; simp; exact .nil
  | x :: xs, _, 0, h => by simpa using h
  | x :: xs, _, n + 1, h => by
    obtain ⟨v, us, rfl, r, q⟩ := h.inv
    exact q.drop n
theorem Reps.set : ∀ {xs : List PV} {vs : List V} {x v} (i : Nat), Reps K O H xs vs → Rep K O H x v → Reps K O H (xs.set i x) (vs.set i v)
  | [], _, _, _, n, h, _ => by rw [h.inv0]; exact .nil
  | y :: xs, _, _, _, 0, h, r => by
    obtain ⟨v, us, rfl, _, q⟩ := h.inv
    exact .cons r q
  | y :: xs, _, _, _, n + 1, h, r => by
    obtain ⟨v, us, rfl, r0, q⟩ := h.inv
    exact .cons r0 (q.set n r)
theorem RepF.len : ∀ {fs : List (Str × PV)} {ws : List (Str × V)}, RepF K O H fs ws → ws.length = fs.length
  | [], _, h => by unfold RepF at h; rw [h]; rfl
  | (n, x) :: fs, _, h => by
    unfold RepF at h
    obtain ⟨v, us, rfl, r, t⟩ := h
    rw [List.length_cons, List.length_cons, t.len]
theorem RepD.nil : RepD K O H [] [] := by unfold RepD; rfl
theorem RepD.len : ∀ {fs : List (Key × PV)} {ws : List (Key × V)}, RepD K O H fs ws → ws.length = fs.length
  | [], _, h => by unfold RepD at h; rw [h]; rfl
  | (n, x) :: fs, _, h => by
    unfold RepD at h
    obtain ⟨v, us, rfl, r, t⟩ := h
    rw [List.length_cons, List.length_cons, t.len]
theorem RepD.keys : ∀ {fs : List (Key × PV)} {ws : List (Key × V)}, RepD K O H fs ws → ws.map (·.1) = fs.map (·.1)
  | [], _, h => by unfold RepD at h; rw [h]; rfl
  | (n, x) :: fs, _, h => by
    unfold RepD at h
    obtain ⟨v, us, rfl, r, t⟩ := h
    rw [List.map_cons, List.map_cons, t.keys]
end
/-! ### the frame -/
inductive Ow where
  | l (xs : List PV) | o (C : Addr) (fs : List (Str × PV)) | d (kvs : List (Key × PV))
inductive Sl where
  | no | va (x : PV) | ow (o : Ow)
abbrev EP' := List Sl
def OwAt (K : PySem.W.Frag) (O : Addr → Prop) (H : Hp) (a : Addr) : Ow → Prop
  | .l xs => ∃ vs, H a = some (.lst vs) ∧ Reps K O H xs vs
  | .o C fs => ∃ dx ws, H a = some (.ins C dx ws) ∧ RepF K O H fs ws
  | .d kvs => ∃ ws, H a = some (.dK ws) ∧ RepD K O H kvs ws
def IsOwn (σ : St) (η : EP') (a : Addr) : Prop := ∃ (i : Nat) (o : Ow), σ[i]? = some (some (V.ref a)) ∧ η[i]? = some (Sl.ow o)
def Oof (F : Addr → Prop) (σ : St) (η : EP') : Addr → Prop := fun a => F a ∨ IsOwn σ η a
structure Rs (K : PySem.W.Frag) (T : List (Addr × Str)) (F : Addr → Prop) (σ : St) (η : EP') (H : Hp) : Prop where
  len : σ.length = η.length
  va : ∀ (i : Nat) (x : PV), η[i]? = some (Sl.va x) → ∃ v, σ[i]? = some (some v) ∧ Rep K (Oof F σ η) H x v
  ow : ∀ (i : Nat) (o : Ow), η[i]? = some (Sl.ow o) → ∃ a, σ[i]? = some (some (V.ref a)) ∧ OwAt K (Oof F σ η) H a o ∧ ¬ F a
  nd : ∀ (i j : Nat) (o o' : Ow) (a : Addr), η[i]? = some (Sl.ow o) → η[j]? = some (Sl.ow o') → σ[i]? = some (some (V.ref a)) → σ[j]? = some (some (V.ref a)) → i = j
  tr : Trk F H
  tb : LamX.Tabs T H
structure Ext (σ : St) (η : EP') (σ' : St) (η' : EP') (H H' : Hp) : Prop where
  keep : ∀ b o, H b = some o → ¬ IsOwn σ η b → (∀ ps, o ≠ .tbl ps) → H' b = some o
  live : ∀ b, ¬ Nw H b → ¬ Nw H' b
  new : ∀ b, IsOwn σ' η' b → IsOwn σ η b ∨ Nw H b
  fst : ∀ o' : Ow, η'[0]? = some (Sl.ow o') → ∃ o : Ow, η[0]? = some (Sl.ow o) ∧ σ'[0]? = σ[0]?
section
variable {K : PySem.W.Frag} {T : List (Addr × Str)} {F : Addr → Prop} {σ σ1 σ2 : St} {η η1 η2 : EP'} {H H1 H2 : Hp}
theorem Ext.refl : Ext σ η σ η H H := ⟨fun _ _ e _ _ => e, fun _ e => e, fun _ e => .inl e, fun o e => ⟨o, e, rfl⟩⟩
theorem Ext.trans (a : Ext σ η σ1 η1 H H1) (b : Ext σ1 η1 σ2 η2 H1 H2) : Ext σ η σ2 η2 H H2 := by
  refine ⟨fun c o e n t => b.keep c o (a.keep c o e n t) ?_ t, fun c e => b.live c (a.live c e), fun c z => ?_, fun o e => ?_⟩
  · intro z
    rcases a.new c z with q | q
    · exact n q
    · exact q.no e t
  · rcases b.new c z with q | q
    · exact a.new c q
    · by_cases e : Nw H c
      · exact .inr e
      · exact absurd q (a.live c e)
  · obtain ⟨o1, e1, s1⟩ := b.fst o e
    obtain ⟨o2, e2, s2⟩ := a.fst o1 e1
    exact ⟨o2, e2, s1.trans s2⟩
theorem Ext.same (s : Same H H1) : Ext σ η σ η H H1 := by
  refine ⟨fun b o e _ _ => s b o e, fun b e q => e fun o r => q o (s b o r), fun _ z => .inl z, fun o e => ⟨o, e, rfl⟩⟩
theorem Ext.nw {b : Addr} (e : Ext σ η σ1 η1 H H1) (n : Nw H1 b) : Nw H b := Classical.byContradiction fun z => e.live b z n
theorem Rs.trO (R : Rs K T F σ η H) : Trk (Oof F σ η) H := by
  rintro a (h | ⟨i, o, h1, h2⟩) e
  · exact R.tr a h e
  · obtain ⟨b, q1, q2, _⟩ := R.ow i o h2
    rw [h1] at q1; cases q1
    cases o with
    | l xs => obtain ⟨vs, q, _⟩ := q2; exact e.no q nofun
    | o C fs => obtain ⟨dx, ws, q, _⟩ := q2; exact e.no q nofun
    | d kvs => obtain ⟨ws, q, _⟩ := q2; exact e.no q nofun
theorem Ext.car (e : Ext σ η σ1 η1 H H1) : Car (Oof F σ η) (Oof F σ1 η1) H H1 := fun a o n h t =>
  ⟨e.keep a o h (fun z => n (.inr z)) t, fun z => z.elim (fun z => n (.inl z)) fun z => (e.new a z).elim (fun z => n (.inr z)) fun q => q.no h t⟩
theorem OwAt.car {O O' : Addr → Prop} {a : Addr} {o : Ow} (c : Car O O' H H1) (h : OwAt K O H a o) (e : H1 a = H a) : OwAt K O' H1 a o := by
  cases o with
  | l xs =>
    obtain ⟨vs, q, r⟩ := h
    exact ⟨vs, e.trans q, r.car c⟩
  | o C fs =>
    obtain ⟨dx, ws, q, r⟩ := h
    exact ⟨dx, ws, e.trans q, r.car c⟩
  | d kvs =>
    obtain ⟨ws, q, r⟩ := h
    exact ⟨ws, e.trans q, r.car c⟩
theorem Rs.same (R : Rs K T F σ η H) (s : Same H H1) : Rs K T F σ η H1 := by
  have c : Car (Oof F σ η) (Oof F σ η) H H1 := Car.same s
  refine ⟨R.len, fun i x e => ?_, fun i o e => ?_, R.nd, R.tr.same s, R.tb.ext s⟩
  · obtain ⟨v, h1, h2⟩ := R.va i x e
    exact ⟨v, h1, h2.car c⟩
  · obtain ⟨a, h1, h2, h3⟩ := R.ow i o e
    refine ⟨a, h1, h2.car c ?_, h3⟩
    cases q : H a with
    | none => exact absurd (Nw.of q) (R.trO a (.inr ⟨i, o, h1, e⟩))
    | some u => exact s a u q
end
/-! ### readings of plain values -/
abbrev TEp := EP' → (PV → EP' → Prop) → Prop
abbrev TTp := EP' → (Bool → EP' → Prop) → Prop
abbrev TAp := EP' → (List PV → EP' → Prop) → Prop
structure EndsP where
  nx : EP' → Prop
  rt : PV → EP' → Prop
  bk : EP' → Prop := fun _ => False
  ct : EP' → Prop := fun _ => False
abbrev TSp := EndsP → EP' → Prop
def up (K : PySem.W.Frag) (T : List (Addr × Str)) (tp : TEp) : TE := fun σ H Q => ∃ F η P, Rs K T F σ η H ∧ tp η P ∧ ∀ x η' v H', P x η' → Ext σ η σ η' H H' → Rs K T F σ η' H' → Rep K (Oof F σ η') H' x v → Q v H'
def upB (K : PySem.W.Frag) (T : List (Addr × Str)) (tp : TTp) : TT := fun σ H Q => ∃ F η P, Rs K T F σ η H ∧ tp η P ∧ ∀ x η' H', P x η' → Ext σ η σ η' H H' → Rs K T F σ η' H' → Q x H'
def upA (K : PySem.W.Frag) (T : List (Addr × Str)) (tp : TAp) : TA := fun σ H Q => ∃ F η P, Rs K T F σ η H ∧ tp η P ∧ ∀ xs η' vs H', P xs η' → Ext σ η σ η' H H' → Rs K T F σ η' H' → Reps K (Oof F σ η') H' xs vs → Q vs H'
def upS (K : PySem.W.Frag) (T : List (Addr × Str)) (ts : TSp) : TS := fun D σ H => ∃ F η D', Rs K T F σ η H ∧ ts D' η ∧
  (∀ η' σ' H', D'.nx η' → Ext σ η σ' η' H H' → Rs K T F σ' η' H' → D.nx σ' H') ∧
  (∀ η' σ' H', D'.bk η' → Ext σ η σ' η' H H' → Rs K T F σ' η' H' → D.bk σ' H') ∧
  (∀ η' σ' H', D'.ct η' → Ext σ η σ' η' H H' → Rs K T F σ' η' H' → D.ct σ' H') ∧
  (∀ x η' σ' v H', D'.rt x η' → Ext σ η σ' η' H H' → Rs K T F σ' η' H' → Rep K (Oof F σ' η') H' x v → D.rt v H')
section
variable {X : Cx}
theorem PE.weak {e : Expr} {t t' : TE} (h : PE X e t) (w : ∀ σ H Q, t' σ H Q → t σ H Q) : PE X e t' := ⟨fun pins s σ H Q I q => h.run pins s σ H Q I (w _ _ _ q)⟩
theorem PT.weak {e : Expr} {t t' : TT} (h : PT X e t) (w : ∀ σ H Q, t' σ H Q → t σ H Q) : PT X e t' := ⟨fun pins s σ H Q I q => h.run pins s σ H Q I (w _ _ _ q)⟩
theorem PW.weak {e : Expr} {t t' : TT} (h : PW X e t) (w : ∀ σ H Q, t' σ H Q → t σ H Q) : PW X e t' := ⟨fun wh pins s σ H Q I q => h.run wh pins s σ H Q I (w _ _ _ q)⟩
theorem PA.weak {e : List Expr} {t t' : TA} (h : PA X e t) (w : ∀ σ H Q, t' σ H Q → t σ H Q) : PA X e t' := ⟨fun pos pins s σ H Q I q => h.run pos pins s σ H Q I (w _ _ _ q)⟩
theorem PS.weak {e : Stmt} {t t' : TS} (h : PS X e t) (w : ∀ D σ H, t' D σ H → t D σ H) : PS X e t' := ⟨fun pins s σ H D I q => h.run pins s σ H D I (w _ _ _ q)⟩
theorem PSs.weak {e : List Stmt} {t t' : TS} (h : PSs X e t) (w : ∀ D σ H, t' D σ H → t D σ H) : PSs X e t' := ⟨fun pins s σ H D I q => h.run pins s σ H D I (w _ _ _ q)⟩
end
end Z
set_option Elab.async false
set_option linter.all false
set_option maxRecDepth 100000
namespace Z
open PySem PySem.Spec L2
open PyProof.Rows hiding St
section
variable {K : PySem.W.Frag} {T : List (Addr × Str)} {F : Addr → Prop} {σ : St} {η : EP'} {H H' : Hp} {i : Nat} {x : PV} {v : V} {a : Addr} {o : Ow}
theorem ne_set {α : Type} {l : List α} {i j : Nat} {x : α} (h : j ≠ i) : (l.set i x)[j]? = l[j]? := List.getElem?_set_ne (Ne.symm h)
theorem at_set {α : Type} {l : List α} {i : Nat} {x y : α} (h : (l.set i x)[i]? = some y) : y = x := by
  by_cases hi : i < l.length
  · rw [List.getElem?_set_self hi] at h; exact (Option.some.inj h).symm
  · rw [List.getElem?_eq_none (by simpa using hi)] at h; cases h
theorem own_set {b : Addr} {w : V} (h : IsOwn (σ.set i (some w)) (η.set i (.va x)) b) : IsOwn σ η b := by
  obtain ⟨j, o, h1, h2⟩ := h
  by_cases e : j = i
  · subst e; cases at_set h2
  · rw [ne_set e] at h1 h2; exact ⟨j, o, h1, h2⟩
theorem own_set1 {b : Addr} (h : IsOwn σ (η.set i (.va x)) b) : IsOwn σ η b := by
  obtain ⟨j, o, h1, h2⟩ := h
  by_cases e : j = i
  · subst e; cases at_set h2
  · rw [ne_set e] at h2; exact ⟨j, o, h1, h2⟩
theorem Oof_mono {σ' : St} {η' : EP'} (h : ∀ b, IsOwn σ' η' b → IsOwn σ η b) : ∀ b, Oof F σ' η' b → Oof F σ η b := fun b z => z.elim .inl fun z => .inr (h b z)
theorem OwAt.mono {O O' : Addr → Prop} (h : ∀ b, O' b → O b) (r : OwAt K O H a o) : OwAt K O' H a o := r.car (Car.mono h) rfl
theorem Rs.setv (R : Rs K T F σ η H) (r : Rep K (Oof F σ η) H x v) : Rs K T F (σ.set i (some v)) (η.set i (.va x)) H := by
  have m : ∀ b, Oof F (σ.set i (some v)) (η.set i (.va x)) b → Oof F σ η b := Oof_mono fun b z => own_set z
  refine ⟨by simpa using R.len, fun j y e => ?_, fun j o e => ?_, fun j k o o' a e1 e2 e3 e4 => ?_, R.tr, R.tb⟩
  · by_cases h : j = i
    · subst h
      have := at_set e; cases this
      have hj : j < η.length := by
        have := (List.getElem?_eq_some_iff.mp e).1; simpa using this
      exact ⟨v, by rw [List.getElem?_set_self (by rw [R.len]; exact hj)], r.mono m⟩
    · rw [ne_set h] at e ⊢
      obtain ⟨w, h1, h2⟩ := R.va j y e
      exact ⟨w, h1, h2.mono m⟩
  · by_cases h : j = i
    · subst h; cases at_set e
    · rw [ne_set h] at e ⊢
      obtain ⟨a, h1, h2, h3⟩ := R.ow j o e
      exact ⟨a, h1, h2.mono m, h3⟩
  · have hj : j ≠ i := fun h => by subst h; cases at_set e1
    have hk : k ≠ i := fun h => by subst h; cases at_set e2
    rw [ne_set hj] at e1 e3
    rw [ne_set hk] at e2 e4
    exact R.nd j k o o' a e1 e2 e3 e4
theorem Ext.setv {w : V} : Ext σ η (σ.set i (some w)) (η.set i (.va x)) H H := ⟨fun _ _ e _ _ => e, fun _ e => e, fun _ z => .inl (own_set z), fun o e => by
  by_cases h : (0 : Nat) = i
  · subst h; cases at_set e
  · rw [ne_set h] at e ⊢
    exact ⟨o, e, rfl⟩⟩
def wkV : PV → PV
  | .pln xs => .tup xs
  | x => x
theorem Rep.wkV {O : Addr → Prop} {x : PV} {v : V} (h : Rep K O H x v) : Rep K O H (wkV x) v := by
  cases x <;> try exact h
  unfold Z.wkV
  unfold Rep at h ⊢
  obtain ⟨a, vs, o, e, n, h, d, r⟩ := h
  exact ⟨a, vs, e, .inl ⟨n, .inr ⟨o, h⟩⟩, r⟩
def frz : Ow → PV
  | .l xs => .lst xs
  | .o C fs => .ins C fs
  | .d kvs => .dic kvs
theorem OwAt.frz {O : Addr → Prop} (h : OwAt K O H a o) (n : ¬ O a) : Rep K O H (frz o) (.ref a) := by
  cases o with
  | l xs =>
    obtain ⟨vs, h1, h2⟩ := h
    unfold Z.frz Rep
    exact ⟨a, vs, rfl, n, h1, h2⟩
  | o C fs =>
    obtain ⟨dx, ws, h1, h2⟩ := h
    unfold Z.frz Rep
    exact ⟨a, dx, ws, rfl, n, h1, h2⟩
  | d kvs =>
    obtain ⟨ws, h1, h2⟩ := h
    unfold Z.frz Rep
    exact ⟨a, ws, rfl, n, h1, h2⟩
theorem Rs.freeze (R : Rs K T F σ η H) (e : η[i]? = some (.ow o)) : ∃ a, σ[i]? = some (some (V.ref a)) ∧ Rs K T F σ (η.set i (.va (frz o))) H ∧ Rep K (Oof F σ (η.set i (.va (frz o)))) H (frz o) (.ref a) := by
  obtain ⟨a, s, r, nf⟩ := R.ow i o e
  have m : ∀ b, Oof F σ (η.set i (.va (frz o))) b → Oof F σ η b := Oof_mono fun b z => own_set1 z
  have na : ¬ Oof F σ (η.set i (.va (frz o))) a := by
    rintro (z | ⟨j, o', h1, h2⟩)
    · exact nf z
    · have hj : j ≠ i := fun h => by subst h; cases at_set h2
      rw [ne_set hj] at h2
      exact hj (R.nd j i o' o a h2 e h1 s)
  have rep := (r.mono m).frz na
  refine ⟨a, s, ⟨by simpa using R.len, fun j y q => ?_, fun j o' q => ?_, fun j k p p' b e1 e2 e3 e4 => ?_, R.tr, R.tb⟩, rep⟩
  · by_cases h : j = i
    · subst h
      cases at_set q
      exact ⟨_, s, rep⟩
    · rw [ne_set h] at q
      obtain ⟨w, h1, h2⟩ := R.va j y q
      exact ⟨w, h1, h2.mono m⟩
  · by_cases h : j = i
    · subst h; cases at_set q
    · rw [ne_set h] at q
      obtain ⟨b, h1, h2, h3⟩ := R.ow j o' q
      exact ⟨b, h1, h2.mono m, h3⟩
  · have hj : j ≠ i := fun h => by subst h; cases at_set e1
    have hk : k ≠ i := fun h => by subst h; cases at_set e2
    rw [ne_set hj] at e1
    rw [ne_set hk] at e2
    exact R.nd j k p p' b e1 e2 e3 e4
theorem Ext.freeze : Ext σ η σ (η.set i (.va x)) H H := ⟨fun _ _ e _ _ => e, fun _ e => e, fun _ z => .inl (own_set1 z), fun o e => by
  by_cases h : (0 : Nat) = i
  · subst h; cases at_set e
  · rw [ne_set h] at e
    exact ⟨o, e, rfl⟩⟩
end
section
variable {X : Cx} {T : List (Addr × Str)}
/-! ### values in, values out -/
def Out (K : PySem.W.Frag) (O : Addr → Prop) (H : Hp) (P : PV → Prop) (Q : VK) : Prop := ∀ z v H', P z → Same H H' → Rep K O H' z v → Q v H'
abbrev R2p := PV → PV → (PV → Prop) → Prop
def r2 (K : PySem.W.Frag) (r : R2p) : R2 := fun x y H Q => ∃ O px py P, Trk O H ∧ Rep K O H px x ∧ Rep K O H py y ∧ r px py P ∧ Out K O H P Q
abbrev R1p := List PV → (PV → Prop) → Prop
def r1 (K : PySem.W.Frag) (r : R1p) : List V → Hp → VK → Prop := fun vs H Q => ∃ O ps P, Trk O H ∧ Reps K O H ps vs ∧ r ps P ∧ Out K O H P Q
def tOpP (r : R2p) (ta tb : TEp) : TEp := fun η P => ta η fun x η1 => tb η1 fun y η2 => r x y fun z => P z η2
def tCBP (r : R1p) (t : TAp) : TEp := fun η P => t η fun xs η1 => r xs fun z => P z η1
def tConP (x : PV) : TEp := fun η P => P x η
def tVarP (i : Nat) : TEp := fun η P => match η[i]? with
  | some (.va x) => P x η
  | some (.ow o) => P (frz o) (η.set i (.va (frz o)))
  | _ => False
def tNilP : TAp := fun η P => P [] η
def tConsP (ta : TEp) (t : TAp) : TAp := fun η P => ta η fun x η1 => t η1 fun xs η2 => P (x :: xs) η2
variable {e a b c : Expr} {es : List Expr} {ta tb tc : TEp} {t : TAp} {pos : Pos}
theorem z_var {i : Nat} {x : Str} (h : PE X (.Name x pos) (tVar i)) : PE X (.Name x pos) (up X.K T (tVarP i)) := by
  refine PE.weak h fun σ H Q q => ?_
  obtain ⟨F, η, P, R, h, k⟩ := q
  unfold tVarP at h
  split at h
  · rename_i y e
    obtain ⟨v, h1, h2⟩ := R.va i y e
    exact ⟨v, h1, k _ _ _ _ h .refl R h2⟩
  · rename_i o e
    obtain ⟨a, h1, h2, h3⟩ := R.freeze e
    exact ⟨_, h1, k _ _ _ _ h .freeze h2 h3⟩
  · cases h
def tVarKP (i : Nat) : TEp := fun η P => match η[i]? with
  | some (.va x) => P (wkV x) η
  | _ => False
theorem z_varK {i : Nat} {x : Str} (h : PE X (.Name x pos) (tVar i)) : PE X (.Name x pos) (up X.K T (tVarKP i)) := by
  refine PE.weak h fun σ H Q q => ?_
  obtain ⟨F, η, P, R, h, k⟩ := q
  unfold tVarKP at h
  split at h
  · rename_i y e
    obtain ⟨v, h1, h2⟩ := R.va i y e
    exact ⟨v, h1, k _ _ _ _ h .refl R h2.wkV⟩
  · cases h
theorem zvK (i : Nat) {x : Str} {pos : Pos} (hN : X.N[i]? = some x := by rfl) (hv : Vis X.env.scope x := by first | exact Or.inl rfl | exact Or.inr (Or.inl rfl) | exact Or.inr (Or.inr rfl)) (hd : (x == ("__debug__" : Str)) = false := by decide)
    (hcd : (x == ("__classdict__" : Str)) = false := by decide) : PE X (.Name x pos) (up X.K T (tVarKP i)) := z_varK (pe_var hN hv hd hcd)
theorem zv (i : Nat) {x : Str} {pos : Pos} (hN : X.N[i]? = some x := by rfl) (hv : Vis X.env.scope x := by first | exact Or.inl rfl | exact Or.inr (Or.inl rfl) | exact Or.inr (Or.inr rfl)) (hd : (x == ("__debug__" : Str)) = false := by decide)
    (hcd : (x == ("__classdict__" : Str)) = false := by decide) : PE X (.Name x pos) (up X.K T (tVarP i)) := z_var (pe_var hN hv hd hcd)
theorem z_con {v : V} {x : PV} (h : PE X e (tC v)) (r : ∀ O H, Rep X.K O H x v) : PE X e (up X.K T (tConP x)) := by
  refine PE.weak h fun σ H Q q => ?_
  obtain ⟨F, η, P, R, h, k⟩ := q
  exact k _ _ _ _ h .refl R (r _ _)
theorem z_int {i j} : PE X (.Constant (.int i) j pos) (up X.K T (tConP (.int i))) := z_con pe_int fun _ _ => by unfold Rep; rfl
theorem z_bl {i j} : PE X (.Constant (.bool i) j pos) (up X.K T (tConP (.bl i))) := z_con pe_bl fun _ _ => by unfold Rep; rfl
theorem z_non {j} : PE X (.Constant .none j pos) (up X.K T (tConP .non)) := z_con pe_non fun _ _ => by unfold Rep; rfl
theorem z_str {i j} : PE X (.Constant (.str i) j pos) (up X.K T (tConP (.str i))) := z_con pe_str fun _ _ => by unfold Rep; rfl
theorem z_op {op : Operator} {r : R2p} (ho : OpR X (binaryOp op) (r2 X.K r)) (ha : PE X a (up X.K T ta)) (hb : PE X b (up X.K T tb)) : PE X (.BinOp a op b pos) (up X.K T (tOpP r ta tb)) := by
  refine PE.weak (pe_op ho ha hb) fun σ H Q q => ?_
  obtain ⟨F, η, P, R, h, k⟩ := q
  refine ⟨F, η, _, R, h, fun x η1 v H1 h1 e1 R1 r1' => ⟨F, η1, _, R1, h1, fun y η2 w H2 h2 e2 R2' rw' => ?_⟩⟩
  exact ⟨Oof F σ η2, x, y, _, R2'.trO, r1'.car e2.car, rw', h2, fun z u H3 pz s rz => k z η2 u H3 pz ((e1.trans e2).trans (.same s)) (R2'.same s) rz⟩
theorem z_cmp {op : CmpOp} {r : R2p} (ho : OpR X (compareOp op) (r2 X.K r)) (ha : PE X a (up X.K T ta)) (hb : PE X b (up X.K T tb)) (hm : behindInMarks op b = false := by first | exact nomark _ | rfl) : PE X (.Compare a [op] [b] pos) (up X.K T (tOpP r ta tb)) := by
  refine PE.weak (pe_cmpR ho ha hb hm) fun σ H Q q => ?_
  obtain ⟨F, η, P, R, h, k⟩ := q
  refine ⟨F, η, _, R, h, fun x η1 v H1 h1 e1 R1 r1' => ⟨F, η1, _, R1, h1, fun y η2 w H2 h2 e2 R2' rw' => ?_⟩⟩
  exact ⟨Oof F σ η2, x, y, _, R2'.trO, r1'.car e2.car, rw', h2, fun z u H3 pz s rz => k z η2 u H3 pz ((e1.trans e2).trans (.same s)) (R2'.same s) rz⟩
def tChainP (r r' : R2p) (ta tb tc : TEp) : TEp := fun η P => ta η fun x η1 => tb η1 fun y η2 => r x y fun z => ∃ k, z = .bl k ∧ if k = true then tc η2 fun w η3 => r' y w fun z' => P z' η3 else P (.bl false) η2
theorem za_nil : PA X [] (upA X.K T tNilP) := by
  refine PA.weak pa_nil fun σ H Q q => ?_
  obtain ⟨F, η, P, R, h, k⟩ := q
  exact k [] η [] H h .refl R .nil
theorem za_cons (ha : PE X e (up X.K T ta)) (hr : PA X es (upA X.K T t)) (hs : starEach (e :: es) X.env = (false, eval e X.env) :: starEach es X.env := by rfl) : PA X (e :: es) (upA X.K T (tConsP ta t)) := by
  refine PA.weak (pa_cons ha hr hs) fun σ H Q q => ?_
  obtain ⟨F, η, P, R, h, k⟩ := q
  refine ⟨F, η, _, R, h, fun x η1 v H1 h1 e1 R1 r1' => ⟨F, η1, _, R1, h1, fun y η2 w H2 h2 e2 R2' rw' => ?_⟩⟩
  exact k (x :: y) η2 (v :: w) H2 h2 (e1.trans e2) R2' (.cons (r1'.car e2.car) rw')
theorem z_callB {x : Str} {id : String} {r : R1p} {p : Pos} (hc : CallR X (.builtin id) (r1 X.K r)) (hg : Gl X x) (hm : X.mg x = none) (hv : bootBuiltins x = some (.builtin id)) (ha : PA X (e :: es) (upA X.K T t)) (hn : x ≠ "__name__" := by decide) (hdb : (x == ("__debug__" : Str)) = false := by decide)
    (he : starEach (e :: es) X.env = (false, eval e X.env) :: starEach es X.env := by rfl) (hpl : (backTo pos (starEach es X.env)).any (·.1) = false := by rfl) : PE X (.Call (.Name x p) (e :: es) [] pos) (up X.K T (tCBP r t)) := by
  refine PE.weak (pe_callB hc hg hm hv ha hn hdb he hpl) fun σ H Q q => ?_
  obtain ⟨F, η, P, R, h, k⟩ := q
  refine ⟨F, η, _, R, h, fun x η1 v H1 h1 e1 R1 r1' => ?_⟩
  exact ⟨Oof F σ η1, x, _, R1.trO, r1', h1, fun z u H3 pz s rz => k z η1 u H3 pz (e1.trans (.same s)) (R1.same s) rz⟩
theorem z_callTy {x : Str} {id : String} {r : R1p} {p : Pos} (hc : CallR X (.type id) (r1 X.K r)) (hg : Gl X x) (hm : X.mg x = none) (hv : bootBuiltins x = some (.type id)) (ha : PA X (e :: es) (upA X.K T t)) (hn : x ≠ "__name__" := by decide) (hdb : (x == ("__debug__" : Str)) = false := by decide)
    (he : starEach (e :: es) X.env = (false, eval e X.env) :: starEach es X.env := by rfl) (hpl : (backTo pos (starEach es X.env)).any (·.1) = false := by rfl) : PE X (.Call (.Name x p) (e :: es) [] pos) (up X.K T (tCBP r t)) := by
  refine PE.weak (pe_callTy hc hg hm hv ha hn hdb he hpl) fun σ H Q q => ?_
  obtain ⟨F, η, P, R, h, k⟩ := q
  refine ⟨F, η, _, R, h, fun x η1 v H1 h1 e1 R1 r1' => ?_⟩
  exact ⟨Oof F σ η1, x, _, R1.trO, r1', h1, fun z u H3 pz s rz => k z η1 u H3 pz (e1.trans (.same s)) (R1.same s) rz⟩
/-! displays -/
def tTupP (t : TAp) : TEp := fun η P => t η fun xs η1 => xs.length ≤ sizeLine ∧ P (.tup xs) η1
def tLstP (t : TAp) : TEp := fun η P => t η fun xs η1 => xs.length ≤ sizeLine ∧ P (.lst xs) η1
theorem rep_newT {K : PySem.W.Frag} {O : Addr → Prop} {H : Hp} {p : Addr} {xs : List PV} {vs : List V} (tr : Trk O H) (hp : H p = none) (r : Reps K O H xs vs) : Rep K O (upd H p (.tup vs)) (.tup xs) (.ref p) := by
  unfold Rep
  exact ⟨p, vs, rfl, .inl ⟨tr.fresh hp, .inl upd_same⟩, r.car (Car.same (Same.new hp))⟩
theorem rep_newL {K : PySem.W.Frag} {O : Addr → Prop} {H : Hp} {p : Addr} {xs : List PV} {vs : List V} (tr : Trk O H) (hp : H p = none) (r : Reps K O H xs vs) : Rep K O (upd H p (.lst vs)) (.lst xs) (.ref p) := by
  unfold Rep
  exact ⟨p, vs, rfl, tr.fresh hp, upd_same, r.car (Car.same (Same.new hp))⟩
theorem z_tup {x1} (h : PA X es (upA X.K T t)) : PE X (.Tuple es x1 pos) (up X.K T (tTupP t)) := by
  refine PE.weak (pe_tup h) fun σ H Q q => ?_
  obtain ⟨F, η, P, R, h, k⟩ := q
  refine ⟨F, η, _, R, h, fun xs η1 vs H1 h1 e1 R1 r1' => ⟨by rw [r1'.len]; exact h1.1, fun p hp => ?_⟩⟩
  exact k _ η1 _ _ h1.2 (e1.trans (.same (Same.new hp))) (R1.same (Same.new hp)) (rep_newT R1.trO hp r1')
theorem z_lst (h : PA X es (upA X.K T t)) : PE X (.List es pos) (up X.K T (tLstP t)) := by
  refine PE.weak (pe_lst h) fun σ H Q q => ?_
  obtain ⟨F, η, P, R, h, k⟩ := q
  refine ⟨F, η, _, R, h, fun xs η1 vs H1 h1 e1 R1 r1' => ⟨by rw [r1'.len]; exact h1.1, fun p hp => ?_⟩⟩
  exact k _ η1 _ _ h1.2 (e1.trans (.same (Same.new hp))) (R1.same (Same.new hp)) (rep_newL R1.trO hp r1')
/-! tests -/
def truth : PV → Option Bool
  | .bl b => some b
  | .non => some false
  | .int i => some (i != 0)
  | .lst xs => some (!xs.isEmpty)
  | .tup xs => some (!xs.isEmpty)
  | _ => none
def tBlP (ta : TEp) : TTp := fun η P => ta η fun x η1 => match x with | .bl b => P b η1 | _ => False
theorem zt_val (h : PE X e (up X.K T ta)) (he : ∀ whole, isTrue e X.env whole = (do let v ← whole; standAt e.pos; holding [v] (truthy v)) := by intro _; rfl) : PT X e (upB X.K T (tBlP ta)) := by
  refine PT.weak (pt_val h he) fun σ H Q q => ?_
  obtain ⟨F, η, P, R, h, k⟩ := q
  refine ⟨F, η, _, R, h, fun x η1 v H1 h1 e1 R1 r1' => ?_⟩
  split at h1
  · unfold Rep at r1'
    exact ⟨_, r1', k _ η1 H1 h1 e1 R1⟩
  · cases h1
theorem zt_cmp {op : CmpOp} {r : R2p} (ho : OpR X (compareOp op) (r2 X.K r)) (ha : PE X a (up X.K T ta)) (hb : PE X b (up X.K T tb)) (hm : behindInMarks op b = false := by first | exact nomark _ | rfl) : PT X (.Compare a [op] [b] pos) (upB X.K T (tBlP (tOpP r ta tb))) := by
  refine PT.weak (pt_cmpR ho ha hb hm) fun σ H Q q => ?_
  obtain ⟨F, η, P, R, h, k⟩ := q
  refine ⟨F, η, _, R, h, fun x η1 v H1 h1 e1 R1 r1' => ⟨F, η1, _, R1, h1, fun y η2 w H2 h2 e2 R2' rw' => ?_⟩⟩
  refine ⟨Oof F σ η2, x, y, _, R2'.trO, r1'.car e2.car, rw', h2, fun z u H3 pz s rz => ?_⟩
  dsimp only at pz
  split at pz
  · unfold Rep at rz
    exact ⟨_, rz, k _ η2 H3 pz ((e1.trans e2).trans (.same s)) (R2'.same s)⟩
  · cases pz
def tAndP (t u : TTp) : TTp := fun η P => t η fun c η1 => if c = true then u η1 P else P false η1
def tOrP (t u : TTp) : TTp := fun η P => t η fun c η1 => if c = true then P true η1 else u η1 P
def tNotP (t : TTp) : TTp := fun η P => t η fun c η1 => P (!c) η1
variable {rest : List Expr} {tA tB : TTp}
theorem zw_and1 (ha : PT X a (upB X.K T tA)) : PW X (.BoolOp .And [a] pos) (upB X.K T tA) := pw_and1 ha
theorem zw_or1 (ha : PT X a (upB X.K T tA)) : PW X (.BoolOp .Or [a] pos) (upB X.K T tA) := pw_or1 ha
theorem zw_and (ha : PT X a (upB X.K T tA)) (hb : PW X (.BoolOp .And (b :: rest) pos) (upB X.K T tB)) : PW X (.BoolOp .And (a :: b :: rest) pos) (upB X.K T (tAndP tA tB)) := by
  refine PW.weak (pw_and ha hb) fun σ H Q q => ?_
  obtain ⟨F, η, P, R, h, k⟩ := q
  refine ⟨F, η, _, R, h, fun x η1 H1 h1 e1 R1 => ?_⟩
  cases x with
  | false => exact k _ _ _ h1 e1 R1
  | true =>
    simp only [if_true] at h1 ⊢
    exact ⟨F, η1, _, R1, h1, fun y η2 H2 h2 e2 R2' => k _ _ _ h2 (e1.trans e2) R2'⟩
theorem zw_or (ha : PT X a (upB X.K T tA)) (hb : PW X (.BoolOp .Or (b :: rest) pos) (upB X.K T tB)) : PW X (.BoolOp .Or (a :: b :: rest) pos) (upB X.K T (tOrP tA tB)) := by
  refine PW.weak (pw_or ha hb) fun σ H Q q => ?_
  obtain ⟨F, η, P, R, h, k⟩ := q
  refine ⟨F, η, _, R, h, fun x η1 H1 h1 e1 R1 => ?_⟩
  cases x with
  | true => exact k _ _ _ h1 e1 R1
  | false =>
    simp only [Bool.false_eq_true, if_false] at h1 ⊢
    exact ⟨F, η1, _, R1, h1, fun y η2 H2 h2 e2 R2' => k _ _ _ h2 (e1.trans e2) R2'⟩
theorem zt_not (ha : PT X a (upB X.K T tA)) : PT X (.UnaryOp .Not a pos) (upB X.K T (tNotP tA)) := by
  refine PT.weak (pt_not ha) fun σ H Q q => ?_
  obtain ⟨F, η, P, R, h, k⟩ := q
  exact ⟨F, η, _, R, h, fun x η1 H1 h1 e1 R1 => k _ _ _ h1 e1 R1⟩
def tAndVP (ta tb : TEp) : TEp := fun η P => ta η fun x η1 => match x with | .bl true => tb η1 P | .bl false => P (.bl false) η1 | _ => False
def tOrVP (ta tb : TEp) : TEp := fun η P => ta η fun x η1 => match x with | .bl false => tb η1 P | .bl true => P (.bl true) η1 | _ => False
def tNotVP (ta : TEp) : TEp := fun η P => ta η fun x η1 => match x with | .bl b => P (.bl (!b)) η1 | _ => False
theorem z_one {op} (h : PE X a (up X.K T ta)) : PE X (.BoolOp op [a] pos) (up X.K T ta) := pe_one h
theorem z_and (ha : PE X a (up X.K T ta)) (hb : PE X (.BoolOp .And (b :: rest) pos) (up X.K T tb)) : PE X (.BoolOp .And (a :: b :: rest) pos) (up X.K T (tAndVP ta tb)) := by
  refine PE.weak (pe_and ha hb) fun σ H Q q => ?_
  obtain ⟨F, η, P, R, h, k⟩ := q
  refine ⟨F, η, _, R, h, fun x η1 v H1 h1 e1 R1 r => ?_⟩
  split at h1
  · unfold Rep at r
    exact ⟨true, r, F, η1, _, R1, h1, fun y η2 w H2 h2 e2 R2' r2' => k _ _ _ _ h2 (e1.trans e2) R2' r2'⟩
  · have r' := r
    unfold Rep at r'
    exact ⟨false, r', k _ _ _ _ h1 e1 R1 (by unfold Rep; rfl)⟩
  · cases h1
theorem z_or (ha : PE X a (up X.K T ta)) (hb : PE X (.BoolOp .Or (b :: rest) pos) (up X.K T tb)) : PE X (.BoolOp .Or (a :: b :: rest) pos) (up X.K T (tOrVP ta tb)) := by
  refine PE.weak (pe_or ha hb) fun σ H Q q => ?_
  obtain ⟨F, η, P, R, h, k⟩ := q
  refine ⟨F, η, _, R, h, fun x η1 v H1 h1 e1 R1 r => ?_⟩
  split at h1
  · unfold Rep at r
    exact ⟨false, r, F, η1, _, R1, h1, fun y η2 w H2 h2 e2 R2' r2' => k _ _ _ _ h2 (e1.trans e2) R2' r2'⟩
  · have r' := r
    unfold Rep at r'
    exact ⟨true, r', k _ _ _ _ h1 e1 R1 (by unfold Rep; rfl)⟩
  · cases h1
theorem z_not (ha : PE X a (up X.K T ta)) : PE X (.UnaryOp .Not a pos) (up X.K T (tNotVP ta)) := by
  refine PE.weak (pe_not ha) fun σ H Q q => ?_
  obtain ⟨F, η, P, R, h, k⟩ := q
  refine ⟨F, η, _, R, h, fun x η1 v H1 h1 e1 R1 r => ?_⟩
  split at h1
  · unfold Rep at r
    exact ⟨_, r, k _ _ _ _ h1 e1 R1 (by unfold Rep; rfl)⟩
  · cases h1
def tIfP (t : TTp) (ta tb : TEp) : TEp := fun η P => t η fun c η1 => if c = true then ta η1 P else tb η1 P
theorem z_ifExp (hc : PT X c (upB X.K T tA)) (ha : PE X a (up X.K T ta)) (hb : PE X b (up X.K T tb)) : PE X (.IfExp c a b pos) (up X.K T (tIfP tA ta tb)) := by
  refine PE.weak (pe_ifExp hc ha hb) fun σ H Q q => ?_
  obtain ⟨F, η, P, R, h, k⟩ := q
  refine ⟨F, η, _, R, h, fun x η1 H1 h1 e1 R1 => ?_⟩
  cases x with
  | true =>
    simp only [if_true] at h1 ⊢
    exact ⟨F, η1, _, R1, h1, fun y η2 w H2 h2 e2 R2' r2' => k _ _ _ _ h2 (e1.trans e2) R2' r2'⟩
  | false =>
    simp only [Bool.false_eq_true, if_false] at h1 ⊢
    exact ⟨F, η1, _, R1, h1, fun y η2 w H2 h2 e2 R2' r2' => k _ _ _ _ h2 (e1.trans e2) R2' r2'⟩
end
end Z
set_option Elab.async false
set_option linter.all false
set_option maxRecDepth 100000
namespace Z
open PySem PySem.Spec L2
open PyProof.Rows hiding St
section
variable {X : Cx}
theorem OpR.weak {f : Value → Value → Sem Value} {r r' : R2} (h : OpR X f r) (w : ∀ x y H Q, r' x y H Q → r x y H Q) : OpR X f r' := fun pins s σ H x y v u Q I rx ry q => h pins s σ H x y v u Q I rx ry (w _ _ _ _ q)
theorem CallR.weak {f : Value} {r r' : List V → Hp → VK → Prop} (h : CallR X f r) (w : ∀ x H Q, r' x H Q → r x H Q) : CallR X f r' := fun pins s σ H xs us Q I r q => h pins s σ H xs us Q I r (w _ _ _ q)
variable {K : PySem.W.Frag} {O : Addr → Prop} {H : Hp} {v : V} {P : PV → Prop} {Q : VK}
-- inversion
theorem Rep.int_ {i} (h : Rep K O H (.int i) v) : v = .int i := by unfold Rep at h; exact h
theorem Rep.str_ {i} (h : Rep K O H (.str i) v) : v = .str i := by unfold Rep at h; exact h
theorem Rep.bl_ {i} (h : Rep K O H (.bl i) v) : v = .bl i := by unfold Rep at h; exact h
theorem Rep.non_ (h : Rep K O H .non v) : v = .non := by unfold Rep at h; exact h
theorem Rep.raw_ {u} (h : Rep K O H (.raw u) v) : v = u := by unfold Rep at h; exact h
theorem Rep.lst_ {xs} (h : Rep K O H (.lst xs) v) : ∃ a vs, v = .ref a ∧ ¬ O a ∧ H a = some (.lst vs) ∧ Reps K O H xs vs := by unfold Rep at h; exact h
theorem Rep.tup_ {xs} (h : Rep K O H (.tup xs) v) : ∃ a vs, v = .ref a ∧ TupAt K O H a vs ∧ Reps K O H xs vs := by unfold Rep at h; exact h
theorem Rep.scr_ {ns} (h : Rep K O H (.scr ns) v) : ∃ a o, v = .ref a ∧ ¬ O a ∧ H a = some (.frz o (.lst (ns.map V.int))) := by unfold Rep at h; exact h
theorem Rep.ins_ {C fs} (h : Rep K O H (.ins C fs) v) : ∃ a dx ws, v = .ref a ∧ ¬ O a ∧ H a = some (.ins C dx ws) ∧ RepF K O H fs ws := by unfold Rep at h; exact h
theorem rep_int {i} : Rep K O H (.int i) (.int i) := by unfold Rep; rfl
theorem rep_str {i} : Rep K O H (.str i) (.str i) := by unfold Rep; rfl
theorem rep_bl {i} : Rep K O H (.bl i) (.bl i) := by unfold Rep; rfl
theorem rep_non : Rep K O H .non .non := by unfold Rep; rfl
theorem Out.int {i} (h : Out K O H P Q) (p : P (.int i)) : Q (.int i) H := h _ _ _ p (Same.refl _) rep_int
theorem Out.str {i} (h : Out K O H P Q) (p : P (.str i)) : Q (.str i) H := h _ _ _ p (Same.refl _) rep_str
theorem Out.bl {i} (h : Out K O H P Q) (p : P (.bl i)) : Q (.bl i) H := h _ _ _ p (Same.refl _) rep_bl
theorem Out.non (h : Out K O H P Q) (p : P .non) : Q .non H := h _ _ _ p (Same.refl _) rep_non
theorem Out.newL {xs vs} {p : Addr} (h : Out K O H P Q) (q : P (.lst xs)) (tr : Trk O H) (r : Reps K O H xs vs) (hp : H p = none) : Q (.ref p) (upd H p (.lst vs)) := h _ _ _ q (Same.new hp) (rep_newL tr hp r)
theorem Out.newT {xs vs} {p : Addr} (h : Out K O H P Q) (q : P (.tup xs)) (tr : Trk O H) (r : Reps K O H xs vs) (hp : H p = none) : Q (.ref p) (upd H p (.tup vs)) := h _ _ _ q (Same.new hp) (rep_newT tr hp r)
/-! ### operators -/
def rAdd : R2p := fun x y P => match x, y with
  | .int i, .int j => P (.int (i + j))
  | .str x, .str y => x.length + y.length ≤ sizeLine ∧ P (.str (x ++ y))
  | .lst xs, .lst ys => xs.length + ys.length ≤ sizeLine ∧ P (.lst (xs ++ ys))
  | .tup xs, .tup ys => xs ≠ [] ∧ xs.length + ys.length ≤ sizeLine ∧ P (.tup (xs ++ ys))
  | _, _ => False
theorem zo_add : OpR X (binaryOp .Add) (r2 X.K rAdd) := by
  refine OpR.weak ((op_add (X := X)).or (op_add_str.or (op_cat.or op_catT))) fun x y H Q h => ?_
  obtain ⟨O, px, py, P, tr, hx, hy, h, k⟩ := h
  unfold rAdd at h
  split at h
  · exact .inl ⟨_, _, hx.int_, hy.int_, k.int h⟩
  · exact .inr (.inl ⟨_, _, hx.str_, hy.str_, h.1, k.str h.2⟩)
  · obtain ⟨a, vs, e1, n1, h1, q1⟩ := hx.lst_
    obtain ⟨b, us, e2, n2, h2, q2⟩ := hy.lst_
    exact .inr (.inr (.inl ⟨a, b, vs, us, e1, e2, h1, h2, by rw [q1.len, q2.len]; exact h.1, fun p hp => k.newL h.2 tr (q1.app q2) hp⟩))
  · obtain ⟨a, vs, e1, h1, q1⟩ := hx.tup_
    obtain ⟨b, us, e2, h2, q2⟩ := hy.tup_
    refine .inr (.inr (.inr ⟨a, b, vs, us, e1, e2, h1.sq, h2.sq, fun z => h.1 (by rw [z] at q1; exact List.length_eq_zero_iff.mp q1.len.symm), by rw [q1.len, q2.len]; exact h.2.1, fun z => ?_, fun _ p hp => k.newT h.2.2 tr (q1.app q2) hp⟩))
    refine k _ _ _ h.2.2 (Same.refl _) ?_
    unfold Rep
    exact ⟨a, vs, rfl, h1, by have := q1.app q2; rw [z, List.append_nil] at this; exact this⟩
  · cases h
def rSub : R2p := fun x y P => match x, y with
  | .int i, .int j => P (.int (i - j))
  | _, _ => False
theorem zo_sub : OpR X (binaryOp .Sub) (r2 X.K rSub) := by
  refine OpR.weak (op_sub (X := X)) fun x y H Q h => ?_
  obtain ⟨O, px, py, P, tr, hx, hy, h, k⟩ := h
  unfold rSub at h
  split at h
  · exact ⟨_, _, hx.int_, hy.int_, k.int h⟩
  · cases h
def rMul : R2p := fun x y P => match x, y with
  | .int i, .int j => CMul i j ∧ P (.int (i * j))
  | .lst xs, .int k => -(2 ^ 63) ≤ k ∧ k < 2 ^ 63 ∧ xs.length * k.toNat ≤ sizeLine ∧ P (.lst (List.replicate k.toNat xs).flatten)
  | _, _ => False
theorem Reps.flat {xs vs} (h : Reps K O H xs vs) : ∀ n, Reps K O H (List.replicate n xs).flatten (List.replicate n vs).flatten
  | 0 => by simp; exact .nil
  | n + 1 => by simp only [List.replicate_succ, List.flatten_cons]; exact h.app (h.flat n)
theorem zo_mul : OpR X (binaryOp .Mult) (r2 X.K rMul) := by
  refine OpR.weak ((op_mul (X := X)).or op_rep) fun x y H Q h => ?_
  obtain ⟨O, px, py, P, tr, hx, hy, h, k⟩ := h
  unfold rMul at h
  split at h
  · exact .inl ⟨_, _, hx.int_, hy.int_, h.1, k.int h.2⟩
  · obtain ⟨a, vs, e1, n1, h1, q1⟩ := hx.lst_
    exact .inr ⟨a, _, vs, e1, hy.int_, h1, h.1, h.2.1, by rw [q1.len]; exact h.2.2.1, fun p hp => k.newL h.2.2.2 tr (q1.flat _) hp⟩
  · cases h
def rDiv : R2p := fun x y P => match x, y with
  | .int i, .int j => CDiv i j ∧ P (.int (i / j))
  | _, _ => False
theorem zo_div : OpR X (binaryOp .FloorDiv) (r2 X.K rDiv) := by
  refine OpR.weak (op_fdiv (X := X)) fun x y H Q h => ?_
  obtain ⟨O, px, py, P, tr, hx, hy, h, k⟩ := h
  unfold rDiv at h
  split at h
  · exact ⟨_, _, hx.int_, hy.int_, h.1, k.int h.2⟩
  · cases h
def rMod : R2p := fun x y P => match x, y with
  | .int i, .int j => 0 < j ∧ P (.int (i % j))
  | _, _ => False
theorem zo_mod : OpR X (binaryOp .Mod) (r2 X.K rMod) := by
  refine OpR.weak (op_mod (X := X)) fun x y H Q h => ?_
  obtain ⟨O, px, py, P, tr, hx, hy, h, k⟩ := h
  unfold rMod at h
  split at h
  · exact ⟨_, _, hx.int_, hy.int_, h.1, k.int h.2⟩
  · cases h
def rPow : R2p := fun x y P => match x, y with
  | .int i, .int j => CPow i j ∧ P (.int (i ^ j.toNat))
  | _, _ => False
theorem zo_pow : OpR X (binaryOp .Pow) (r2 X.K rPow) := by
  refine OpR.weak (op_pow (X := X)) fun x y H Q h => ?_
  obtain ⟨O, px, py, P, tr, hx, hy, h, k⟩ := h
  unfold rPow at h
  split at h
  · exact ⟨_, _, hx.int_, hy.int_, h.1, k.int h.2⟩
  · cases h
/-! ### comparisons -/
def rLt : R2p := fun x y P => match x, y with
  | .int i, .int j => P (.bl (decide (i < j)))
  | .str x, .str y => P (.bl (decide (x.cps.toList < y.cps.toList)))
  | _, _ => False
theorem zo_lt : OpR X (compareOp .Lt) (r2 X.K rLt) := by
  refine OpR.weak ((op_lt (X := X)).or op_lt_str) fun x y H Q h => ?_
  obtain ⟨O, px, py, P, tr, hx, hy, h, k⟩ := h
  unfold rLt at h
  split at h
  · exact .inl ⟨_, _, hx.int_, hy.int_, k.bl h⟩
  · exact .inr ⟨_, _, hx.str_, hy.str_, k.bl h⟩
  · cases h
def rGt : R2p := fun x y P => match x, y with
  | .int i, .int j => P (.bl (decide (j < i)))
  | _, _ => False
theorem zo_gt : OpR X (compareOp .Gt) (r2 X.K rGt) := by
  refine OpR.weak (op_gt (X := X)) fun x y H Q h => ?_
  obtain ⟨O, px, py, P, tr, hx, hy, h, k⟩ := h
  unfold rGt at h
  split at h
  · exact ⟨_, _, hx.int_, hy.int_, k.bl h⟩
  · cases h
def rGe : R2p := fun x y P => match x, y with
  | .int i, .int j => P (.bl (decide (j ≤ i)))
  | _, _ => False
theorem zo_ge : OpR X (compareOp .GtE) (r2 X.K rGe) := by
  refine OpR.weak (op_ge (X := X)) fun x y H Q h => ?_
  obtain ⟨O, px, py, P, tr, hx, hy, h, k⟩ := h
  unfold rGe at h
  split at h
  · exact ⟨_, _, hx.int_, hy.int_, k.bl h⟩
  · cases h
end
end Z
set_option Elab.async false
set_option linter.all false
set_option maxRecDepth 100000
namespace Z
open PySem PySem.Spec L2
open PyProof.Rows hiding St
/-! ### data -/
mutual
def toD : PV → Option PyData
  | .non => some .none
  | .bl b => some (.bool b)
  | .int i => some (.int i)
  | .str x => some (.str x)
  | .tup xs => (toDs xs).map .tuple
  | .lst xs => (toDs xs).map .list
  | .scr _ => none
  | .ins _ _ => none
  | .dic _ => none
  | .raw _ => none
  | .pln xs => (toDs xs).map .tuple
def toDs : List PV → Option (List PyData)
  | [] => some []
  | x :: xs => match toD x, toDs xs with
    | some d, some ds => some (d :: ds)
    | _, _ => none
end
theorem toDs_cons {x : PV} {xs : List PV} {ds : List PyData} (h : toDs (x :: xs) = some ds) : ∃ d r, ds = d :: r ∧ toD x = some d ∧ toDs xs = some r := by
  unfold toDs at h
  split at h
  · rename_i d r h1 h2
    cases h
    exact ⟨d, r, rfl, h1, h2⟩
  · cases h
section
variable {K : PySem.W.Frag} {O : Addr → Prop} {H : Hp}
mutual
theorem Rep.dp : ∀ (x : PV) (v : V) (d : PyData), Rep K O H x v → toD x = some d → Dp K H v d
  | .non, _, _, h, e => by cases h.non_; unfold toD at e; cases e; exact .non
  | .bl _, _, _, h, e => by cases h.bl_; unfold toD at e; cases e; exact .bl _
  | .int _, _, _, h, e => by cases h.int_; unfold toD at e; cases e; exact .int _
  | .str _, _, _, h, e => by cases h.str_; unfold toD at e; cases e; exact .str _
  | .tup xs, _, _, h, e => by
    obtain ⟨a, vs, rfl, t, r⟩ := h.tup_
    unfold toD at e
    cases q : toDs xs with
    | none => rw [q] at e; cases e
    | some ds => rw [q] at e; cases e; exact .tup t.sq (Reps.dp xs vs ds r q)
  | .lst xs, _, _, h, e => by
    obtain ⟨a, vs, rfl, n, t, r⟩ := h.lst_
    unfold toD at e
    cases q : toDs xs with
    | none => rw [q] at e; cases e
    | some ds => rw [q] at e; cases e; exact .lst (SqL.of t) (Reps.dp xs vs ds r q)
  | .scr _, _, _, _, e => by unfold toD at e; cases e
  | .ins _ _, _, _, _, e => by unfold toD at e; cases e
  | .dic _, _, _, _, e => by unfold toD at e; cases e
  | .raw _, _, _, _, e => by unfold toD at e; cases e
  | .pln xs, _, _, h, e => by
    have h' := h.wkV
    unfold wkV at h'
    obtain ⟨a, vs, rfl, t, r⟩ := h'.tup_
    unfold toD at e
    cases q : toDs xs with
    | none => rw [q] at e; cases e
    | some ds => rw [q] at e; cases e; exact .tup t.sq (Reps.dp xs vs ds r q)
theorem Reps.dp : ∀ (xs : List PV) (vs : List V) (ds : List PyData), Reps K O H xs vs → toDs xs = some ds → DpAll K H vs ds
  | [], _, _, h, e => by rw [h.inv0]; unfold toDs at e; cases e; exact .nil
  | x :: xs, _, _, h, e => by
    obtain ⟨v, us, rfl, r, t⟩ := h.inv
    obtain ⟨d, ds, rfl, h1, h2⟩ := toDs_cons e
    exact .cons (Rep.dp x v d r h1) (Reps.dp xs us ds t h2)
end
end
section
variable {X : Cx}
/-! ### equality of data -/
def rEqP (neg : Bool) : R2p := fun x y P => ∃ d e, toD x = some d ∧ toD y = some e ∧ SeqAt.shaped d = true ∧ SeqAt.shaped e = true ∧ P (.bl (if neg then !PyData.eqv d e else PyData.eqv d e))
theorem zo_eq (hu : X.A.units + 64 < cLine) : OpR X (compareOp .Eq) (r2 X.K (rEqP false)) := by
  refine OpR.weak (op_eqD hu) fun x y H Q h => ?_
  obtain ⟨O, px, py, P, tr, hx, hy, ⟨d, e, h1, h2, h3, h4, h⟩, k⟩ := h
  exact ⟨d, e, Rep.dp _ _ _ hx h1, Rep.dp _ _ _ hy h2, h3, h4, k.bl h⟩
theorem zo_ne (hu : X.A.units + 64 < cLine) : OpR X (compareOp .NotEq) (r2 X.K (rEqP true)) := by
  refine OpR.weak (op_neD hu) fun x y H Q h => ?_
  obtain ⟨O, px, py, P, tr, hx, hy, ⟨d, e, h1, h2, h3, h4, h⟩, k⟩ := h
  exact ⟨d, e, Rep.dp _ _ _ hx h1, Rep.dp _ _ _ hy h2, h3, h4, k.bl h⟩
def rEqI (neg : Bool) : R2p := fun x y P => match x, y with
  | .int i, .int j => P (.bl (if neg then !decide (i = j) else decide (i = j)))
  | .str i, .str j => P (.bl (if neg then !decide (i = j) else decide (i = j)))
  | .bl i, .bl j => P (.bl (if neg then !decide (i = j) else decide (i = j)))
  | _, _ => False
theorem zo_eqI : OpR X (compareOp .Eq) (r2 X.K (rEqI false)) := by
  refine OpR.weak (op_eq (X := X)) fun x y H Q h => ?_
  obtain ⟨O, px, py, P, tr, hx, hy, h, k⟩ := h
  unfold rEqI at h
  split at h
  · rw [hx.int_, hy.int_]; refine ⟨rfl, k.bl ?_⟩; simpa using h
  · rw [hx.str_, hy.str_]; refine ⟨rfl, k.bl ?_⟩; simpa using h
  · rw [hx.bl_, hy.bl_]; refine ⟨rfl, k.bl ?_⟩; simpa using h
  · cases h
theorem zo_neI : OpR X (compareOp .NotEq) (r2 X.K (rEqI true)) := by
  refine OpR.weak (op_ne (X := X)) fun x y H Q h => ?_
  obtain ⟨O, px, py, P, tr, hx, hy, h, k⟩ := h
  unfold rEqI at h
  split at h
  · rw [hx.int_, hy.int_]; refine ⟨rfl, k.bl ?_⟩; simpa using h
  · rw [hx.str_, hy.str_]; refine ⟨rfl, k.bl ?_⟩; simpa using h
  · rw [hx.bl_, hy.bl_]; refine ⟨rfl, k.bl ?_⟩; simpa using h
  · cases h
def rLe : R2p := fun x y P => match x, y with
  | .int i, .int j => P (.bl (decide (i ≤ j)))
  | .str x, .str y => P (.bl (!decide (y.cps.toList < x.cps.toList)))
  | _, _ => False
theorem zo_le : OpR X (compareOp .LtE) (r2 X.K rLe) := by
  refine OpR.weak ((op_le (X := X)).or op_le_str) fun x y H Q h => ?_
  obtain ⟨O, px, py, P, tr, hx, hy, h, k⟩ := h
  unfold rLe at h
  split at h
  · exact .inl ⟨_, _, hx.int_, hy.int_, k.bl h⟩
  · exact .inr ⟨_, _, hx.str_, hy.str_, k.bl h⟩
  · cases h
def isNon : PV → Option Bool
  | .non => some true
  | .raw _ => none
  | _ => some false
def rIsN (neg : Bool) : R2p := fun x y P => match y with
  | .non => ∃ b, isNon x = some b ∧ P (.bl (if neg then !b else b))
  | _ => False
theorem isNon_rep {K : PySem.W.Frag} {O : Addr → Prop} {H : Hp} {x : PV} {v : V} {b : Bool} (h : Rep K O H x v) (e : isNon x = some b) : decide (v = .non) = b := by
  cases x <;> unfold isNon at e <;> try (cases e)
  · rw [h.non_]; rfl
  · rw [h.bl_]; rfl
  · rw [h.int_]; rfl
  · rw [h.str_]; rfl
  · obtain ⟨a, vs, rfl, _⟩ := h.tup_; rfl
  · obtain ⟨a, vs, rfl, _⟩ := h.lst_; rfl
  · obtain ⟨a, vs, rfl, _⟩ := h.scr_; rfl
  · obtain ⟨a, vs, _, rfl, _⟩ := h.ins_; rfl
  · unfold Rep at h; obtain ⟨a, ws, rfl, _⟩ := h; rfl
  · unfold Rep at h; obtain ⟨a, ws, o, rfl, _⟩ := h; rfl
theorem zo_is : OpR X (compareOp .Is) (r2 X.K (rIsN false)) := by
  refine OpR.weak (op_isN (X := X)) fun x y H Q h => ?_
  obtain ⟨O, px, py, P, tr, hx, hy, h, k⟩ := h
  unfold rIsN at h
  split at h
  · obtain ⟨b, h1, h2⟩ := h
    refine ⟨hy.non_, ?_⟩
    rw [isNon_rep hx h1]; exact k.bl h2
  · cases h
def rInS (neg : Bool) : R2p := fun x y P => match x, y with
  | .str a, .str z => ∃ c, a = ⟨#[c]⟩ ∧ P (.bl (if neg then !decide (c ∈ z.cps.toList) else decide (c ∈ z.cps.toList)))
  | _, _ => False
theorem zo_in : OpR X (compareOp .In) (r2 X.K (rInS false)) := by
  refine OpR.weak (op_in_sign (X := X)) fun x y H Q h => ?_
  obtain ⟨O, px, py, P, tr, hx, hy, h, k⟩ := h
  unfold rInS at h
  split at h
  · obtain ⟨c, rfl, h⟩ := h
    exact ⟨c, _, hx.str_, hy.str_, k.bl h⟩
  · cases h
/-! ### built-ins -/
def rLen : R1p := fun ps P => match ps with
  | [.str x] => x.length ≤ sizeLine ∧ P (.int x.length)
  | [.lst xs] => P (.int xs.length)
  | [.tup xs] => P (.int xs.length)
  | [.scr xs] => P (.int xs.length)
  | _ => False
theorem zc_len : CallR X (.builtin "len") (r1 X.K rLen) := by
  refine CallR.weak (call_len (X := X)) fun xs H Q h => ?_
  obtain ⟨O, ps, P, tr, hx, h, k⟩ := h
  unfold rLen at h
  split at h
  · obtain ⟨v, us, rfl, r, t⟩ := hx.inv
    cases t.inv0; cases r.str_
    exact ⟨_, _, rfl, ⟨h.1, rfl⟩, k.int h.2⟩
  · obtain ⟨v, us, rfl, r, t⟩ := hx.inv
    cases t.inv0
    obtain ⟨a, vs, rfl, n, q, rr⟩ := r.lst_
    exact ⟨_, _, rfl, .inl ⟨vs, SqL.of q, rfl⟩, by rw [rr.len]; exact k.int h⟩
  · obtain ⟨v, us, rfl, r, t⟩ := hx.inv
    cases t.inv0
    obtain ⟨a, vs, rfl, q, rr⟩ := r.tup_
    exact ⟨_, _, rfl, .inr ⟨vs, q.sq, rfl⟩, by rw [rr.len]; exact k.int h⟩
  · obtain ⟨v, us, rfl, r, t⟩ := hx.inv
    cases t.inv0
    obtain ⟨a, o, rfl, n, q⟩ := r.scr_
    exact ⟨_, _, rfl, .inl ⟨_, .inl (.inr ⟨o, q⟩), rfl⟩, by rw [List.length_map]; exact k.int h⟩
  · cases h
def rAbs : R1p := fun ps P => match ps with
  | [.int i] => P (.int (if i < 0 then -i else i))
  | _ => False
theorem zc_abs : CallR X (.builtin "abs") (r1 X.K rAbs) := by
  refine CallR.weak (call_abs (X := X)) fun xs H Q h => ?_
  obtain ⟨O, ps, P, tr, hx, h, k⟩ := h
  unfold rAbs at h
  split at h
  · obtain ⟨v, us, rfl, r, t⟩ := hx.inv
    cases t.inv0; cases r.int_
    exact ⟨_, rfl, k.int h⟩
  · cases h
theorem Reps.two {K : PySem.W.Frag} {O H} {x y : PV} {vs : List V} (h : Reps K O H [x, y] vs) : ∃ v w, vs = [v, w] ∧ Rep K O H x v ∧ Rep K O H y w := by
  obtain ⟨v, us, rfl, r, t⟩ := h.inv
  obtain ⟨w, us, rfl, r', t⟩ := t.inv
  cases t.inv0
  exact ⟨v, w, rfl, r, r'⟩
theorem Reps.one {K : PySem.W.Frag} {O H} {x : PV} {vs : List V} (h : Reps K O H [x] vs) : ∃ v, vs = [v] ∧ Rep K O H x v := by
  obtain ⟨v, us, rfl, r, t⟩ := h.inv
  cases t.inv0
  exact ⟨v, rfl, r⟩
def blsOf : List PV → Option (List Bool)
  | [] => some []
  | .bl b :: r => (blsOf r).map (b :: ·)
  | _ => none
theorem blsOf_rep {K : PySem.W.Frag} {O H} : ∀ {xs : List PV} {bs : List Bool} {vs : List V}, blsOf xs = some bs → Reps K O H xs vs → vs = bs.map V.bl
  | [], _, _, e, h => by unfold blsOf at e; cases e; exact h.inv0
  | x :: xs, _, _, e, h => by
    obtain ⟨v, us, rfl, r, t⟩ := h.inv
    cases x <;> unfold blsOf at e <;> try (cases e)
    cases q : blsOf xs with
    | none => rw [q] at e; cases e
    | some r' =>
      rw [q] at e; cases e
      rw [r.bl_, blsOf_rep q t]; rfl
def rAllP : R1p := fun ps P => match ps with
  | [.lst xs] => ∃ bs, blsOf xs = some bs ∧ P (.bl (bs.all id))
  | _ => False
theorem zc_all (hc : X.calm = true) : CallR X (.builtin "all") (r1 X.K rAllP) := by
  refine CallR.weak (cr_all hc) fun xs H Q h => ?_
  obtain ⟨O, ps, P, tr, hx, h, k⟩ := h
  unfold rAllP at h
  split at h
  · obtain ⟨bs, e, h⟩ := h
    obtain ⟨v, rfl, r⟩ := hx.one
    obtain ⟨a, vs, rfl, n, q, rr⟩ := r.lst_
    have := blsOf_rep e rr
    subst this
    exact ⟨a, bs, rfl, SqL.of q, k.bl h⟩
  · cases h
def rTuple : R1p := fun ps P => match ps with
  | [.lst xs] => P (.tup xs)
  | [.tup xs] => P (.tup xs)
  | _ => False
theorem zc_tuple : CallR X (.type "tuple") (r1 X.K rTuple) := by
  refine CallR.weak (call_tuple_of (X := X)) fun xs H Q h => ?_
  obtain ⟨O, ps, P, tr, hx, h, k⟩ := h
  unfold rTuple at h
  split at h
  · rename_i xs
    obtain ⟨v, rfl, r⟩ := hx.one
    obtain ⟨a, vs, rfl, n, q, rr⟩ := r.lst_
    exact ⟨a, vs, rfl, .inl ⟨SqL.of q, fun l hl => k.newT h tr rr hl⟩⟩
  · obtain ⟨v, rfl, r⟩ := hx.one
    obtain ⟨a, vs, rfl, q, rr⟩ := r.tup_
    exact ⟨a, vs, rfl, .inr ⟨q.sq, k _ _ _ h (Same.refl _) r⟩⟩
  · cases h
/-! isinstance -/
def tyN : PV → Option String
  | .non => some "NoneType"
  | .bl _ => some "bool"
  | .int _ => some "int"
  | .str _ => some "str"
  | .tup _ => some "tuple"
  | .lst _ => some "list"
  | .scr _ => some "list"
  | .dic _ => some "dict"
  | .ins _ _ => none
  | .raw _ => none
  | .pln _ => none
structure ClsT (K : PySem.W.Frag) (C : Addr) : Prop where
  cl : Cls K C
  ha : PySem.W.findIn K (.ref C) "__class__" = some (some (.builtin "object.__class__"))
  hn : PySem.W.specialIn K (.builtin "object.__class__") "__get__" = some (some (.builtin "getset_descriptor.__get__"))
  htk : PySem.W.takesIn K (.builtin "object.__class__") = some true
  hm : PySem.W.mroIn K C (.type "object") = some true
  own : PySem.W.kitOne K (.ref C) (.ref C) = some true
  ty : ∀ n : String, n ∈ ["int", "bool", "str", "tuple", "list", "dict"] → PySem.W.kitOne K (.ref C) (.type n) = some false
  no : ∀ n : String, n ∈ ["NoneType", "int", "bool", "str", "tuple", "list", "dict"] → PySem.W.kitOne K (.type n) (.ref C) = some false
def rIsI (K : PySem.W.Frag) : R1p := fun ps P => match ps with
  | [x, .raw (.ty n)] => (match tyN x with
    | some t => ∃ b, kitB t n = some b ∧ P (.bl b)
    | none => match x with
      | .ins C _ => ClsT K C ∧ n ∈ ["int", "bool", "str", "tuple", "list", "dict"] ∧ P (.bl false)
      | _ => False)
  | [x, .raw (.ref C)] => (match tyN x with
    | some t => ClsT K C ∧ t ∈ ["NoneType", "int", "bool", "str", "tuple", "list", "dict"] ∧ P (.bl false)
    | none => match x with
      | .ins C' _ => C' = C ∧ ClsT K C ∧ P (.bl true)
      | _ => False)
  | _ => False
theorem tyN_rep {K : PySem.W.Frag} {O H} {x : PV} {v : V} {t : String} (h : Rep K O H x v) (e : tyN x = some t) : TyX K H v (.type t) := by
  cases x <;> unfold tyN at e <;> cases e
  · rw [h.non_]; exact .base .non
  · rw [h.bl_]; exact .base (.bl _)
  · rw [h.int_]; exact .base (.int _)
  · rw [h.str_]; exact .base (.str _)
  · obtain ⟨a, vs, rfl, q, rr⟩ := h.tup_
    rcases q with ⟨_, q | ⟨o, q⟩⟩ | ⟨o, its, n, q1, q2, _⟩
    · exact .base (.tup q)
    · exact .fTuple q
    · exact .kTuple q1 q2
  · obtain ⟨a, vs, rfl, n, q, rr⟩ := h.lst_; exact .base (.lst q)
  · obtain ⟨a, o, rfl, n, q⟩ := h.scr_; exact .base (.frz q)
  · unfold Rep at h; obtain ⟨a, ws, rfl, n, q, _⟩ := h; exact .base (.dK q)
theorem zc_isi : CallR X (.builtin "isinstance") (r1 X.K (rIsI X.K)) := by
  refine CallR.weak (call_isi (X := X)) fun xs H Q h => ?_
  obtain ⟨O, ps, P, tr, hx, h, k⟩ := h
  unfold rIsI at h
  split at h
  · obtain ⟨v, w, rfl, r, r'⟩ := hx.two
    cases r'.raw_
    split at h
    · rename_i t et
      obtain ⟨b, hb, h⟩ := h
      exact ⟨_, _, _, _, b, rfl, .ty _, tyN_rep r et, kit_ty hb, k.bl h⟩
    · split at h
      · obtain ⟨a, dx, ws, rfl, n, q, rr⟩ := r.ins_
        obtain ⟨T, hn, h⟩ := h
        exact ⟨_, _, _, _, false, rfl, .ty _, .base (.ins q T.cl T.ha T.hn T.htk T.hm), T.ty _ hn, k.bl h⟩
      · cases h
  · obtain ⟨v, w, rfl, r, r'⟩ := hx.two
    cases r'.raw_
    split at h
    · rename_i t et
      obtain ⟨T, hn, h⟩ := h
      exact ⟨_, _, _, _, false, rfl, .own _, tyN_rep r et, T.no _ hn, k.bl h⟩
    · split at h
      · obtain ⟨rfl, T, h⟩ := h
        obtain ⟨a, dx, ws, rfl, n, q, rr⟩ := r.ins_
        exact ⟨_, _, _, _, true, rfl, .own _, .base (.ins q T.cl T.ha T.hn T.htk T.hm), T.own, k.bl h⟩
      · cases h
  · cases h
end
end Z
set_option Elab.async false
set_option linter.all false
set_option maxRecDepth 100000
namespace Z
open PySem PySem.Spec L2
open PyProof.Rows hiding St
section
variable {X : Cx}
/-! ### sorted -/
def encD (x : PV) : PyData := (toD x).getD .none
theorem toDs_map : ∀ {xs : List PV} {ds : List PyData}, toDs xs = some ds → ds = xs.map encD
  | [], _, e => by unfold toDs at e; cases e; rfl
  | x :: xs, _, e => by
    obtain ⟨d, r, rfl, h1, h2⟩ := toDs_cons e
    rw [List.map_cons, ← toDs_map h2]
    unfold encD; rw [h1]; rfl
def ValR (K : PySem.W.Frag) (O : Addr → Prop) (H : Hp) (u : Value) (x : PV) : Prop := ∃ v, RelV v u ∧ Rep K O H x v
theorem each_val {K : PySem.W.Frag} {O H} : ∀ {xs : List PV} {vs : List V} {us : List Value}, Reps K O H xs vs → Vals vs us → PySem.W.EachIs (ValR K O H) us xs
  | [], _, _, h, r => by cases h.inv0; cases r; exact .nil
  | x :: xs, _, _, h, r => by
    obtain ⟨v, us, rfl, r1, t⟩ := h.inv
    cases r with
    | cons r2 t2 => exact .cons ⟨v, r2, r1⟩ (each_val t t2)
theorem val_each {K : PySem.W.Frag} {O H} : ∀ {xs : List PV} {us : List Value}, PySem.W.EachIs (ValR K O H) us xs → ∃ vs, Reps K O H xs vs ∧ Vals vs us
  | _, _, .nil => ⟨[], .nil, .nil⟩
  | _, _, .cons ⟨v, h1, h2⟩ t => by
    obtain ⟨vs, q1, q2⟩ := val_each t
    exact ⟨v :: vs, .cons h2 q1, .cons h1 q2⟩
theorem each_reads {K : PySem.W.Frag} {O H} {pins s σ} (I : Inv X pins σ H s) (hK : K = X.K) : ∀ {xs : List PV} {vs : List V} {us : List Value} {ds : List PyData}, Reps K O H xs vs → Vals vs us → toDs xs = some ds → PySem.W.EachIs (fun u x => ∃ as, Reads s.heap u (encD x) as) us xs
  | [], _, _, _, h, r, e => by cases h.inv0; cases r; exact .nil
  | x :: xs, _, _, _, h, r, e => by
    subst hK
    obtain ⟨v, us, rfl, r1, t⟩ := h.inv
    obtain ⟨d, ds, rfl, h1, h2⟩ := toDs_cons e
    cases r with
    | cons r2 t2 =>
      refine .cons ?_ (each_reads I rfl t t2 h2)
      have e' : encD x = d := by unfold encD; rw [h1]; rfl
      rw [e']
      exact Dp.reads I d v _ (Rep.dp _ _ _ r1 h1) r2
def rSortD : R1p := fun ps P => match ps with
  | [.lst xs] => ∃ ds, toDs xs = some ds ∧ PySem.W.AllAlike ds ∧ PySem.W.Sortable ds ∧ (∀ x ∈ xs, (encD x).depth ≤ 50) ∧ xs.length ≤ sizeLine ∧ P (.lst (xs.mergeSort (PySem.W.dataLe false encD)))
  | [.tup xs] => False
  | _ => False
theorem zc_sorted (hu : X.A.units + 64 < cLine) : CallR X (.builtin "sorted") (r1 X.K rSortD) := by
  intro pins s σ H vs us Q I r h
  obtain ⟨O, ps, P, tr, hx, h, k⟩ := h
  unfold rSortD at h
  split at h
  · rename_i xs
    obtain ⟨ds, e, hal, hso, hdp, hz, h⟩ := h
    obtain ⟨v, rfl, rv⟩ := hx.one
    obtain ⟨a, ws, rfl, na, q, rr⟩ := rv.lst_
    obtain ⟨u, rfl, ru⟩ := vals1 r
    cases ru
    obtain ⟨its, rits, hl, hzz⟩ := I.list (SqL.of q)
    have em := toDs_map e
    rw [em] at hal hso
    refine PySem.W.sorted_data (R := ValR X.K O H) (enc := encD) hl.isList (each_val rr rits) (each_reads I rfl rr rits e) hal hso hz (fun b hb => by have := hdp b hb; omega) fun out ho eo => ?_
    obtain ⟨ys, r3, r4⟩ := val_each eo
    obtain ⟨c, hc⟩ := sortedAll_at s.heap its out.toArray
    have fr : H (s.heap.objs.size + 1) = none := I.hok.fresh (Nat.le_succ _)
    refine ⟨.ref (s.heap.objs.size + 1), upd H (s.heap.objs.size + 1) (.lst ys), I.laid (t' := s.toks) (fun b o e => sortedAll_old e) (Nat.le_succ _) ⟨?_, out, c, r4, hc⟩, rfl, k.newL h tr r3 fr⟩
    rw [r3.len, List.length_mergeSort]; exact hz
  · cases h
  · cases h
end
end Z
set_option Elab.async false
set_option linter.all false
set_option maxRecDepth 100000
namespace Z
open PySem PySem.Spec L2
open PyProof.Rows hiding St
/-! ### growth -/
structure Gr (H H' : Hp) : Prop where
  keep : ∀ b o, H b = some o → (∀ ps, o ≠ .tbl ps) → H' b = some o
  live : ∀ b, ¬ Nw H b → ¬ Nw H' b
section
variable {K : PySem.W.Frag} {T : List (Addr × Str)} {F O : Addr → Prop} {σ σ' : St} {η η' : EP'} {H H' : Hp} {i : Nat} {x : PV} {v : V} {a : Addr} {o : Ow}
theorem Gr.car (g : Gr H H') : Car O O H H' := fun a o n e t => ⟨g.keep a o e t, n⟩
theorem Gr.ext (g : Gr H H') : Ext σ η σ η H H' := ⟨fun b o e _ t => g.keep b o e t, g.live, fun _ z => .inl z, fun o e => ⟨o, e, rfl⟩⟩
theorem Gr.same (s : Same H H') : Gr H H' := ⟨fun b o e _ => s b o e, (Ext.same (σ := []) (η := []) s).live⟩
theorem Rs.gr (R : Rs K T F σ η H) (g : Gr H H') (tb : LamX.Tabs T H') : Rs K T F σ η H' := by
  have c : Car (Oof F σ η) (Oof F σ η) H H' := g.car
  refine ⟨R.len, fun i x e => ?_, fun i o e => ?_, R.nd, fun a h => g.live a (R.tr a h), tb⟩
  · obtain ⟨v, h1, h2⟩ := R.va i x e
    exact ⟨v, h1, h2.car c⟩
  · obtain ⟨a, h1, h2, h3⟩ := R.ow i o e
    refine ⟨a, h1, h2.car c ?_, h3⟩
    cases o with
    | l xs => obtain ⟨vs, q, _⟩ := h2; rw [q]; exact g.keep _ _ q nofun
    | o C fs => obtain ⟨dx, ws, q, _⟩ := h2; rw [q]; exact g.keep _ _ q nofun
    | d kvs => obtain ⟨ws, q, _⟩ := h2; rw [q]; exact g.keep _ _ q nofun
theorem own_put {b : Addr} {o' : Ow} (e : η[i]? = some (Sl.ow o)) : IsOwn σ (η.set i (.ow o')) b ↔ IsOwn σ η b := by
  have hi : i < η.length := (List.getElem?_eq_some_iff.mp e).1
  constructor
  · rintro ⟨j, p, h1, h2⟩
    by_cases q : j = i
    · subst q; exact ⟨j, o, h1, e⟩
    · rw [ne_set q] at h2; exact ⟨j, p, h1, h2⟩
  · rintro ⟨j, p, h1, h2⟩
    by_cases q : j = i
    · subst q; exact ⟨j, o', h1, by rw [List.getElem?_set_self hi]⟩
    · exact ⟨j, p, h1, by rw [ne_set q]; exact h2⟩
theorem Rs.put {o' : Ow} (R : Rs K T F σ η H) (e : η[i]? = some (Sl.ow o)) (s : σ[i]? = some (some (V.ref a))) (c : Car (Oof F σ η) (Oof F σ η) H H') (oth : ∀ b, b ≠ a → IsOwn σ η b → H' b = H b) (tr : Trk F H') (tb : LamX.Tabs T H')
    (h : OwAt K (Oof F σ η) H' a o') : Rs K T F σ (η.set i (.ow o')) H' := by
  have hi : i < η.length := (List.getElem?_eq_some_iff.mp e).1
  have m : ∀ b, Oof F σ (η.set i (.ow o')) b → Oof F σ η b := Oof_mono fun b z => (own_put e).mp z
  refine ⟨by simpa using R.len, fun j y q => ?_, fun j p q => ?_, fun j k p p' b e1 e2 e3 e4 => ?_, tr, tb⟩
  · have hj : j ≠ i := fun z => by subst z; cases at_set q
    rw [ne_set hj] at q
    obtain ⟨w, h1, h2⟩ := R.va j y q
    exact ⟨w, h1, (h2.car c).mono m⟩
  · by_cases hj : j = i
    · subst hj
      cases at_set q
      obtain ⟨b, h1, h2, h3⟩ := R.ow j o e
      rw [s] at h1; cases h1
      exact ⟨a, s, h.mono m, h3⟩
    · rw [ne_set hj] at q
      obtain ⟨b, h1, h2, h3⟩ := R.ow j p q
      refine ⟨b, h1, (h2.car c (oth b ?_ ⟨j, p, h1, q⟩)).mono m, h3⟩
      rintro rfl
      exact hj (R.nd j i p o b q e h1 s)
  · have f : ∀ {j p}, (η.set i (.ow o'))[j]? = some (Sl.ow p) → ∃ p', η[j]? = some (Sl.ow p') := fun {j p} q => by
      by_cases hj : j = i
      · rw [hj]; exact ⟨o, e⟩
      · rw [ne_set hj] at q; exact ⟨p, q⟩
    obtain ⟨q1, f1⟩ := f e1
    obtain ⟨q2, f2⟩ := f e2
    exact R.nd j k q1 q2 b f1 f2 e3 e4
theorem Tabs.upd {a : Addr} {u w : HO} (t : LamX.Tabs T H) (h : H a = some w) (n1 : ∀ ps, w ≠ .tbl ps) (n2 : ∀ φ, w ≠ .ext φ) : LamX.Tabs T (upd H a u) := fun p hp => by
  obtain ⟨ps, h1, h2, h3⟩ := t p hp
  refine ⟨ps, by rw [upd_ne (fun z => n1 ps (by rw [z] at h1; exact Option.some.inj (h.symm.trans h1)))]; exact h1, h2, fun pos cv hc => ?_⟩
  obtain ⟨c, e1, e2⟩ := h3 pos cv hc
  refine ⟨c, e1, ?_⟩
  rw [upd_ne (fun z => by rw [z] at e2; exact n2 _ (Option.some.inj (h.symm.trans e2)))]
  exact e2
theorem Rs.write {o' : Ow} {u w : HO} (R : Rs K T F σ η H) (e : η[i]? = some (Sl.ow o)) (s : σ[i]? = some (some (V.ref a))) (hw : H a = some w) (n1 : ∀ ps, w ≠ .tbl ps) (n2 : ∀ φ, w ≠ .ext φ) (n3 : ∀ ps, u ≠ .tbl ps)
    (h : Car (Oof F σ η) (Oof F σ η) H (upd H a u) → OwAt K (Oof F σ η) (upd H a u) a o') : Rs K T F σ (η.set i (.ow o')) (upd H a u) ∧ Ext σ η σ (η.set i (.ow o')) H (upd H a u) := by
  have own : IsOwn σ η a := ⟨i, o, s, e⟩
  have c : Car (Oof F σ η) (Oof F σ η) H (upd H a u) := fun b q n hb _ => ⟨by rw [upd_ne (fun z => n (by rw [z]; exact .inr own))]; exact hb, n⟩
  refine ⟨R.put e s c (fun b n _ => upd_ne n) (fun b hb => ?_) (Tabs.upd R.tb hw n1 n2) (h c), fun b q hb n _ => ?_, fun b hb => ?_, fun b z => .inl ((own_put e).mp z), fun p q => ?_⟩
  · exact live_upd n3 (R.tr b hb)
  · rw [upd_ne (fun z => n (by rw [z]; exact own))]; exact hb
  · exact live_upd n3 hb
  · by_cases z : (0 : Nat) = i
    · rw [z]; exact ⟨o, e, rfl⟩
    · rw [ne_set z] at q; exact ⟨p, q, rfl⟩
end
/-! ### statements -/
section
variable {X : Cx} {T : List (Addr × Str)} {e o : Expr} {es : List Expr} {te ta tb : TEp} {t : TAp} {pos : Pos} {st : Stmt} {rest : List Stmt} {t1 t2 : TSp}
def tSeqP (t u : TSp) : TSp := fun D η => t { D with nx := fun η' => u D η' } η
theorem zs_cons (h1 : PS X st (upS X.K T t1)) (h2 : PSs X rest (upS X.K T t2)) : PSs X (st :: rest) (upS X.K T (tSeqP t1 t2)) := by
  refine PSs.weak (pss_cons h1 h2) fun D σ H q => ?_
  obtain ⟨F, η, D', R, h, k1, k2, k3, k4⟩ := q
  refine ⟨F, η, _, R, h, fun η' σ' H' q e1 R1 => ?_, k2, k3, k4⟩
  exact ⟨F, η', D', R1, q, fun η'' σ'' H'' q' e2 R2 => k1 _ _ _ q' (e1.trans e2) R2, fun η'' σ'' H'' q' e2 R2 => k2 _ _ _ q' (e1.trans e2) R2, fun η'' σ'' H'' q' e2 R2 => k3 _ _ _ q' (e1.trans e2) R2, fun x η'' σ'' v H'' q' e2 R2 r => k4 _ _ _ _ _ q' (e1.trans e2) R2 r⟩
theorem zs_one (h1 : PS X st (upS X.K T t1)) : PSs X [st] (upS X.K T t1) := pss_one h1
def tNextP : TSp := fun D η => D.nx η
theorem zs_nil : PSs X [] (upS X.K T tNextP) := by
  refine PSs.weak pss_nil fun D σ H q => ?_
  obtain ⟨F, η, D', R, h, k1, k2, k3, k4⟩ := q
  exact k1 _ _ _ h .refl R
def tNevP : TSp := fun _ _ => False
def tDropP (te : TEp) : TSp := fun D η => te η fun _ η1 => D.nx η1
def tRetP (te : TEp) : TSp := fun D η => te η D.rt
theorem z_ret (he : PE X e (up X.K T te)) : PS X (.Return (some e) pos) (upS X.K T (tRetP te)) := by
  refine PS.weak (ps_ret he) fun D σ H q => ?_
  obtain ⟨F, η, D', R, h, k1, k2, k3, k4⟩ := q
  exact ⟨F, η, _, R, h, fun x η1 v H1 h1 e1 R1 r => k4 _ _ _ _ _ h1 e1 R1 r⟩
def tRetNP : TSp := fun D η => D.rt .non η
def tIfSP (c : TTp) (t u : TSp) : TSp := fun D η => c η fun b η1 => if b = true then t D η1 else u D η1
theorem z_if {c : Expr} {a b : List Stmt} {tc : TTp} (hc : PT X c (upB X.K T tc)) (ha : PSs X a (upS X.K T t1)) (hb : PSs X b (upS X.K T t2)) : PS X (.If c a b pos) (upS X.K T (tIfSP tc t1 t2)) := by
  refine PS.weak (ps_if hc ha hb) fun D σ H q => ?_
  obtain ⟨F, η, D', R, h, k1, k2, k3, k4⟩ := q
  refine ⟨F, η, _, R, h, fun x η1 H1 h1 e1 R1 => ?_⟩
  cases x with
  | true =>
    simp only [if_true] at h1 ⊢
    exact ⟨F, η1, D', R1, h1, fun η'' σ'' H'' q' e2 R2 => k1 _ _ _ q' (e1.trans e2) R2, fun η'' σ'' H'' q' e2 R2 => k2 _ _ _ q' (e1.trans e2) R2, fun η'' σ'' H'' q' e2 R2 => k3 _ _ _ q' (e1.trans e2) R2, fun x η'' σ'' v H'' q' e2 R2 r => k4 _ _ _ _ _ q' (e1.trans e2) R2 r⟩
  | false =>
    simp only [Bool.false_eq_true, if_false] at h1 ⊢
    exact ⟨F, η1, D', R1, h1, fun η'' σ'' H'' q' e2 R2 => k1 _ _ _ q' (e1.trans e2) R2, fun η'' σ'' H'' q' e2 R2 => k2 _ _ _ q' (e1.trans e2) R2, fun η'' σ'' H'' q' e2 R2 => k3 _ _ _ q' (e1.trans e2) R2, fun x η'' σ'' v H'' q' e2 R2 r => k4 _ _ _ _ _ q' (e1.trans e2) R2 r⟩
def tSetP (i : Nat) (te : TEp) : TSp := fun D η => te η fun x η1 => D.nx (η1.set i (.va x))
theorem z_set {i : Nat} {x : Str} {pos' : Pos} (hN : X.N.Nodup) (hi : X.N[i]? = some x) (hx : Loc X.env.scope x) (he : PE X e (up X.K T te)) (hs : swapsWith e (some (.Name x pos')) pos.line X.env = pure false := by rfl) (hf : X.fn x = true ∨ X.env.scope.names.lookup x = some .local := by first | exact .inl rfl | exact .inr rfl | assumption) :
    PS X (.Assign [.Name x pos'] e pos) (upS X.K T (tSetP i te)) := by
  refine PS.weak (ps_set hN hi hx he hs hf) fun D σ H q => ?_
  obtain ⟨F, η, D', R, h, k1, k2, k3, k4⟩ := q
  exact ⟨F, η, _, R, h, fun x η1 v H1 h1 e1 R1 r => k1 _ _ _ h1 (e1.trans .setv) (R1.setv r)⟩
/-! targets -/
abbrev TGp := PV → EP' → (EP' → Prop) → Prop
abbrev TGsp := List PV → EP' → (EP' → Prop) → Prop
def upG (K : PySem.W.Frag) (T : List (Addr × Str)) (g : TGp) : TG := fun v σ H Q => ∃ F η x P, Rs K T F σ η H ∧ Rep K (Oof F σ η) H x v ∧ g x η P ∧ ∀ η' σ' H', P η' → Ext σ η σ' η' H H' → Rs K T F σ' η' H' → Q σ' H'
def upGs (K : PySem.W.Frag) (T : List (Addr × Str)) (g : TGsp) : TGs := fun vs σ H Q => ∃ F η xs P, Rs K T F σ η H ∧ Reps K (Oof F σ η) H xs vs ∧ g xs η P ∧ ∀ η' σ' H', P η' → Ext σ η σ' η' H H' → Rs K T F σ' η' H' → Q σ' H'
theorem PG.weak {tg : Expr} {t t' : TG} (h : PG X tg t) (w : ∀ v σ H Q, t' v σ H Q → t v σ H Q) : PG X tg t' := by
  obtain ⟨r⟩ := h
  exact ⟨fun pins s σ H v u Q I rv q => r pins s σ H v u Q I rv (w _ _ _ _ q)⟩
theorem PGs.weak {tg : List Expr} {t t' : TGs} (h : PGs X tg t) (w : ∀ v σ H Q, t' v σ H Q → t v σ H Q) : PGs X tg t' := by
  obtain ⟨r⟩ := h
  exact ⟨fun pins s σ H v u Q I rv q => r pins s σ H v u Q I rv (w _ _ _ _ q)⟩
def gNameP (i : Nat) : TGp := fun x η P => P (η.set i (.va x))
theorem zg_name {i : Nat} {x : Str} (hN : X.N.Nodup) (hi : X.N[i]? = some x) (hx : Loc X.env.scope x) (hf : X.fn x = true ∨ X.env.scope.names.lookup x = some .local := by first | exact .inl rfl | exact .inr rfl | assumption) : PG X (.Name x pos) (upG X.K T (gNameP i)) := by
  refine PG.weak (pg_name hN hi hx hf) fun v σ H Q q => ?_
  obtain ⟨F, η, x, P, R, r, h, k⟩ := q
  exact k _ _ _ h .setv (R.setv r)
def gNilP : TGsp := fun xs η P => xs = [] ∧ P η
def gConsP (t : TGp) (u : TGsp) : TGsp := fun xs η P => match xs with
  | x :: r => t x η fun η1 => u r η1 P
  | [] => False
theorem zgs_nil : PGs X [] (upGs X.K T gNilP) := by
  refine PGs.weak pgs_nil fun v σ H Q q => ?_
  obtain ⟨F, η, x, P, R, r, h, k⟩ := q
  rw [h.1] at r
  exact ⟨r.inv0, k _ _ _ h.2 .refl R⟩
theorem zgs_cons {t : TGp} {u : TGsp} (h1 : PG X e (upG X.K T t)) (h2 : PGs X es (upGs X.K T u)) (pf : PGs X (e :: es) (gCons (upG X.K T t) (upGs X.K T u))) : PGs X (e :: es) (upGs X.K T (gConsP t u)) := by
  refine PGs.weak pf fun v σ H Q q => ?_
  obtain ⟨F, η, x, P, R, r, h, k⟩ := q
  unfold gConsP at h
  split at h
  · obtain ⟨v, us, rfl, r1, r2⟩ := r.inv
    refine ⟨v, us, rfl, F, η, _, _, R, r1, h, fun η' σ' H' h' e1 R1 => ⟨F, η', _, P, R1, r2.car e1.car, h', fun η'' σ'' H'' h'' e2 R2 => k _ _ _ h'' (e1.trans e2) R2⟩⟩
  · cases h
def gTupP (n : Nat) (t : TGsp) : TGp := fun x η P => match x with
  | .tup xs => xs.length = n ∧ t xs η P
  | _ => False
theorem zg_tup {k n : Nat} {t : TGsp} (pf : PG X (.Tuple es k pos) (gTup X.K n (upGs X.K T t))) : PG X (.Tuple es k pos) (upG X.K T (gTupP n t)) := by
  refine PG.weak pf fun v σ H Q q => ?_
  obtain ⟨F, η, x, P, R, r, h, k⟩ := q
  unfold gTupP at h
  split at h
  · obtain ⟨a, vs, rfl, t, r⟩ := r.tup_
    exact ⟨a, vs, rfl, t.sq, by rw [r.len]; exact h.1, F, η, _, P, R, r, h.2, k⟩
  · cases h
def tAsgP (te : TEp) (g : TGp) : TSp := fun D η => te η fun x η1 => g x η1 D.nx
theorem z_asg {tg : Expr} {g : TGp} (he : PE X e (up X.K T te)) (hg : PG X tg (upG X.K T g)) (hs : swapsWithSole [tg] e pos.line X.env = pure false := by rfl) (hw : swappedStores [tg] e X.env = pure none := by rfl) (h1 : (assignEach [tg] X.env).map (·.2) = [assign tg X.env] := by rfl) : PS X (.Assign [tg] e pos) (upS X.K T (tAsgP te g)) := by
  refine PS.weak (ps_asg he hg hs hw h1) fun D σ H q => ?_
  obtain ⟨F, η, D', R, h, k1, k2, k3, k4⟩ := q
  exact ⟨F, η, _, R, h, fun x η1 v H1 h1 e1 R1 r => ⟨F, η1, x, _, R1, r, h1, fun η' σ' H' h' e2 R2 => k1 _ _ _ h' (e1.trans e2) R2⟩⟩
def gSubP (i : Nat) (ti : TEp) : TGp := fun x η P => (∃ o, η[i]? = some (Sl.ow o)) ∧ ti η fun k η1 => match η1[i]? with
  | some (.ow (.l xs)) => ∃ kk j, k = .int kk ∧ ixN xs.length kk = some j ∧ P (η1.set i (.ow (.l (xs.set j x))))
  | _ => False
theorem zg_sub {i : Nat} {ix : Expr} {ti : TEp} (ho : PE X o (tVar i)) (hi : PE X ix (up X.K T ti)) (pf : PG X (.Subscript o ix pos) (gSub (tVar i) (up X.K T ti) rSetL)) : PG X (.Subscript o ix pos) (upG X.K T (gSubP i ti)) := by
  refine PG.weak pf fun v σ H Q q => ?_
  obtain ⟨F, η, x, P, R, r, ⟨⟨oo, ho⟩, h⟩, k⟩ := q
  obtain ⟨b, hw, _, _⟩ := R.ow i _ ho
  refine ⟨_, hw, F, η, _, R, h, fun y η1 u H1 h1 e1 R1 r1 => ?_⟩
  split at h1
  · rename_i xs e
    obtain ⟨kk, j, rfl, hj, h1⟩ := h1
    obtain ⟨a, s, ⟨vs, q1, q2⟩, nf⟩ := R1.ow i _ e
    rw [hw] at s; cases s
    refine ⟨b, vs, kk, j, rfl, r1.int_, q1, by rw [q2.len]; exact hj, ?_⟩
    have rr := r.car e1.car
    obtain ⟨W, E⟩ := R1.write (o' := .l (xs.set j x)) (u := .lst (vs.set j v)) e hw q1 nofun nofun nofun fun c => ⟨_, upd_same, (q2.set j rr).car c⟩
    exact k _ _ _ h1 (e1.trans E) W
  · cases h1
end
end Z
set_option Elab.async false
set_option linter.all false
set_option maxRecDepth 100000
namespace Z
open PySem PySem.Spec L2
open PyProof.Rows hiding St
/-! ### fresh lists, own slots -/
section
variable {K : PySem.W.Frag} {T : List (Addr × Str)} {F : Addr → Prop} {σ : St} {η : EP'} {H H' : Hp} {i : Nat} {x : PV} {v : V} {a : Addr} {o : Ow}
def With (F : Addr → Prop) (a : Addr) : Addr → Prop := fun b => F b ∨ b = a
abbrev TFp := EP' → (List PV → EP' → Prop) → Prop
def upF (K : PySem.W.Frag) (T : List (Addr × Str)) (tp : TFp) : TE := fun σ H Q => ∃ F η P, Rs K T F σ η H ∧ tp η P ∧ ∀ xs η' a vs H', P xs η' → Ext σ η σ η' H H' → Rs K T (With F a) σ η' H' → Nw H a → ¬ F a → H' a = some (.lst vs) → Reps K (Oof (With F a) σ η') H' xs vs → Q (.ref a) H'
theorem Rs.shrink {F' : Addr → Prop} (R : Rs K T F σ η H) (h : ∀ b, F' b → F b) : Rs K T F' σ η H := by
  have m : ∀ b, Oof F' σ η b → Oof F σ η b := fun b z => z.elim (fun z => .inl (h b z)) .inr
  refine ⟨R.len, fun i x e => ?_, fun i o e => ?_, R.nd, fun a z => R.tr a (h a z), R.tb⟩
  · obtain ⟨v, h1, h2⟩ := R.va i x e
    exact ⟨v, h1, h2.mono m⟩
  · obtain ⟨a, h1, h2, h3⟩ := R.ow i o e
    exact ⟨a, h1, h2.mono m, fun z => h3 (h a z)⟩
theorem Rs.add {p : Addr} {o : HO} (R : Rs K T F σ η H) (hp : H p = none) (nt : ∀ ps, o ≠ .tbl ps) : Rs K T (With F p) σ η (upd H p o) := by
  have c : Car (Oof F σ η) (Oof (With F p) σ η) H (upd H p o) := fun b q n hb _ => ⟨(Same.new hp) b q hb, fun z => by
    rcases z with (z | z) | z
    · exact n (.inl z)
    · rw [z, hp] at hb; cases hb
    · exact n (.inr z)⟩
  refine ⟨R.len, fun i x e => ?_, fun i o e => ?_, R.nd, fun a z => ?_, R.tb.ext (Same.new hp)⟩
  · obtain ⟨v, h1, h2⟩ := R.va i x e
    exact ⟨v, h1, h2.car c⟩
  · obtain ⟨a, h1, h2, h3⟩ := R.ow i o e
    have na : a ≠ p := fun z => R.trO a (.inr ⟨i, o, h1, e⟩) (Nw.of (by rw [z]; exact hp))
    refine ⟨a, h1, h2.car c (upd_ne na), fun z => z.elim h3 na⟩
  · rcases z with z | z
    · exact R.tr.same (Same.new hp) a z
    · rw [z]; exact nw_same nt
theorem car_add {p : Addr} {o : HO} (hp : H p = none) : Car (Oof F σ η) (Oof (With F p) σ η) H (upd H p o) := fun b q n hb _ => ⟨(Same.new hp) b q hb, fun z => by
    rcases z with (z | z) | z
    · exact n (.inl z)
    · rw [z, hp] at hb; cases hb
    · exact n (.inr z)⟩
theorem Rs.seto (R : Rs K T (With F a) σ η H) (nf : ¬ F a) (h : OwAt K (Oof (With F a) σ η) H a o) (hi : i < η.length) : Rs K T F (σ.set i (some (.ref a))) (η.set i (.ow o)) H := by
  have m : ∀ b, Oof F (σ.set i (some (.ref a))) (η.set i (.ow o)) b → Oof (With F a) σ η b := by
    rintro b (z | ⟨j, p, h1, h2⟩)
    · exact .inl (.inl z)
    · by_cases hj : j = i
      · subst hj
        cases at_set h1
        exact .inl (.inr rfl)
      · rw [ne_set hj] at h1 h2
        exact .inr ⟨j, p, h1, h2⟩
  have hs : i < σ.length := by rw [R.len]; exact hi
  refine ⟨by simpa using R.len, fun j y e => ?_, fun j p e => ?_, fun j k p p' b e1 e2 e3 e4 => ?_, fun b z => R.tr b (.inl z), R.tb⟩
  · have hj : j ≠ i := fun z => by subst z; cases at_set e
    rw [ne_set hj] at e ⊢
    obtain ⟨w, h1, h2⟩ := R.va j y e
    exact ⟨w, h1, h2.mono m⟩
  · by_cases hj : j = i
    · subst hj
      cases at_set e
      exact ⟨a, by rw [List.getElem?_set_self hs], h.mono m, nf⟩
    · rw [ne_set hj] at e ⊢
      obtain ⟨b, h1, h2, h3⟩ := R.ow j p e
      exact ⟨b, h1, h2.mono m, fun z => h3 (.inl z)⟩
  · by_cases hj : j = i
    · by_cases hk : k = i
      · exact hj.trans hk.symm
      · exfalso
        subst hj
        cases at_set e3
        rw [ne_set hk] at e2 e4
        obtain ⟨b, h1, h2, h3⟩ := R.ow k _ e2
        rw [e4] at h1; cases h1
        exact h3 (.inr rfl)
    · by_cases hk : k = i
      · exfalso
        subst hk
        cases at_set e4
        rw [ne_set hj] at e1 e3
        obtain ⟨b, h1, h2, h3⟩ := R.ow j _ e1
        rw [e3] at h1; cases h1
        exact h3 (.inr rfl)
      · rw [ne_set hj] at e1 e3
        rw [ne_set hk] at e2 e4
        exact R.nd j k _ _ b e1 e2 e3 e4
theorem Ext.seto {σ0 : St} {η0 : EP'} {H0 : Hp} (e : Ext σ0 η0 σ η H0 H) (hn : Nw H0 a) (h0 : (0 : Nat) ≠ i) : Ext σ0 η0 (σ.set i (some (.ref a))) (η.set i (.ow o)) H0 H := by
  refine ⟨e.keep, e.live, fun b z => ?_, fun p q => ?_⟩
  rotate_left
  · rw [ne_set h0] at q ⊢
    exact e.fst p q
  obtain ⟨j, p, h1, h2⟩ := z
  by_cases hj : j = i
  · subst hj
    cases at_set h1
    exact .inr hn
  · rw [ne_set hj] at h1 h2
    exact e.new b ⟨j, p, h1, h2⟩
end
section
variable {X : Cx} {T : List (Addr × Str)} {e o : Expr} {es : List Expr} {te ta tb : TEp} {t : TAp} {tf : TFp} {pos : Pos}
def tValP (tf : TFp) : TEp := fun η P => tf η fun xs η1 => P (.lst xs) η1
theorem z_val (h : PE X e (upF X.K T tf)) : PE X e (up X.K T (tValP tf)) := by
  refine PE.weak h fun σ H Q q => ?_
  obtain ⟨F, η, P, R, h, k⟩ := q
  refine ⟨F, η, _, R, h, fun xs η' a vs H' h1 e1 R1 hn nf hv r => ?_⟩
  refine k _ _ _ _ h1 e1 (R1.shrink fun b z => .inl z) ?_
  unfold Rep
  refine ⟨a, vs, rfl, fun z => ?_, hv, r.mono fun b z => z.elim (fun z => .inl (.inl z)) .inr⟩
  rcases z with z | ⟨j, p, h1, h2⟩
  · exact nf z
  · obtain ⟨b, q1, q2, q3⟩ := R1.ow j p h2
    rw [h1] at q1; cases q1
    exact q3 (.inr rfl)
def tLstFP (t : TAp) : TFp := fun η P => t η fun xs η1 => xs.length ≤ sizeLine ∧ P xs η1
theorem zf_lst (h : PA X es (upA X.K T t)) : PE X (.List es pos) (upF X.K T (tLstFP t)) := by
  refine PE.weak (pe_lst h) fun σ H Q q => ?_
  obtain ⟨F, η, P, R, h, k⟩ := q
  refine ⟨F, η, _, R, h, fun xs η1 vs H1 h1 e1 R1 r1' => ⟨by rw [r1'.len]; exact h1.1, fun p hp => ?_⟩⟩
  have hn : Nw H p := e1.nw (Nw.of hp)
  exact k xs η1 p vs _ h1.2 (e1.trans (.same (Same.new hp))) (R1.add hp nofun) hn (fun z => R.tr p z hn) upd_same (r1'.car (car_add hp))
def tSetFP (i : Nat) (tf : TFp) : TSp := fun D η => (0 : Nat) ≠ i ∧ tf η fun xs η1 => i < η1.length ∧ D.nx (η1.set i (.ow (.l xs)))
theorem z_setF {i : Nat} {x : Str} {pos' : Pos} (hN : X.N.Nodup) (hi : X.N[i]? = some x) (hx : Loc X.env.scope x) (he : PE X e (upF X.K T tf)) (hs : swapsWith e (some (.Name x pos')) pos.line X.env = pure false := by rfl) (hf : X.fn x = true ∨ X.env.scope.names.lookup x = some .local := by first | exact .inl rfl | exact .inr rfl | assumption) :
    PS X (.Assign [.Name x pos'] e pos) (upS X.K T (tSetFP i tf)) := by
  refine PS.weak (ps_set hN hi hx he hs hf) fun D σ H q => ?_
  obtain ⟨F, η, D', R, ⟨hi, h⟩, k1, k2, k3, k4⟩ := q
  refine ⟨F, η, _, R, h, fun xs η1 a vs H1 h1 e1 R1 hn nf hv r => ?_⟩
  exact k1 _ _ _ h1.2 (e1.seto hn hi) (R1.seto nf ⟨vs, hv, r⟩ h1.1)
def tAppP (i : Nat) (te : TEp) : TSp := fun D η => (∃ xs, η[i]? = some (Sl.ow (.l xs))) ∧ te η fun x η1 => match η1[i]? with
  | some (.ow (.l xs)) => xs.length < sizeLine ∧ D.nx (η1.set i (.ow (.l (xs ++ [x]))))
  | _ => False
theorem z_app {i : Nat} {K0 : PySem.W.Frag} (hK : X.K = K0) (pf : PS X (.Expr o pos) (tDrop (tBM K0 "list" rAppend (tVar i) (tCons (up K0 T te) tNil)))) : PS X (.Expr o pos) (upS K0 T (tAppP i te)) := by
  subst hK
  refine PS.weak pf fun D σ H q => ?_
  obtain ⟨F, η, D', R, ⟨⟨oo, ho⟩, h⟩, k1, k2, k3, k4⟩ := q
  obtain ⟨b, hw, q0, _⟩ := R.ow i _ ho
  refine ⟨_, hw, ?_, F, η, _, R, h, fun y η1 u H1 h1 e1 R1 r1 => ?_⟩
  · obtain ⟨vs, q1, q2⟩ := q0; exact .inl ⟨rfl, vs, SqL.of q1⟩
  · split at h1
    · rename_i xs e
      obtain ⟨a, s, ⟨vs, q1, q2⟩, nf⟩ := R1.ow i _ e
      rw [hw] at s; cases s
      refine ⟨b, vs, u, rfl, rfl, q1, by rw [q2.len]; exact h1.1, ?_⟩
      obtain ⟨W, E⟩ := R1.write (o' := .l (xs ++ [y])) (u := .lst (vs ++ [u])) e hw q1 nofun nofun nofun fun c => ⟨_, upd_same, (q2.app (.cons r1 .nil)).car c⟩
      exact k1 _ _ _ h1.2 (e1.trans E) W
    · cases h1
end
end Z
set_option Elab.async false
set_option linter.all false
set_option maxRecDepth 100000
namespace Z
open PySem PySem.Spec L2
open PyProof.Rows hiding St
section
variable {X : Cx} {T : List (Addr × Str)} {a b e o : Expr} {es : List Expr} {te ta tb : TEp} {t : TAp} {tf : TFp} {pos : Pos}
/-! ### text times number -/
def strRep (x : Str) (n : Nat) : Str := ⟨((List.replicate n x.cps.toList).flatten).toArray⟩
theorem fold_app (c : Array Nat) : ∀ (n : Nat) (acc : Array Nat), (List.replicate n c).foldl (· ++ ·) acc = acc ++ ((List.replicate n c.toList).flatten).toArray
  | 0, acc => by simp
  | n + 1, acc => by
    rw [List.replicate_succ, List.foldl_cons, fold_app c n, List.replicate_succ, List.flatten_cons]
    apply Array.toList_inj.mp
    simp
theorem strRep_len (x : Str) (n : Nat) : (strRep x n).length = n * x.length := by
  show ((List.replicate n x.cps.toList).flatten).toArray.size = _
  rw [List.size_toArray, PyProof.Rows.lm_len_rep_flat]
  simp [Str.length]
def rMulS : R2p := fun x y P => match x, y with
  | .str z, .int n => 1 ≤ n ∧ n ≤ 1000 ∧ z.length ≤ 1000 ∧ P (.str (strRep z n.toNat))
  | _, _ => False
theorem zo_mulS : OpR X (binaryOp .Mult) (r2 X.K rMulS) := by
  intro pins s σ H x y v u Q I rx ry h
  obtain ⟨O, px, py, P, tr, hx, hy, h, k⟩ := h
  unfold rMulS at h
  split at h
  · rename_i z n
    obtain ⟨h1, h2, h3, h⟩ := h
    cases hx.str_
    cases hy.int_
    obtain ⟨t, rfl⟩ := rx
    obtain ⟨t', rfl⟩ := ry
    have hn : ¬ n < 1 := by omega
    have hz : z.length * n.toNat ≤ 1000000 := by
      have := Nat.mul_le_mul h3 (show n.toNat ≤ 1000 by omega)
      omega
    refine PySem.P.mul_str (by rw [decide_eq_false (by omega), decide_eq_false (by omega)]; rfl) (fun _ _ => ?_) (fun _ _ => ?_) ?_
    · have q : (1000 : Int) ≤ (2 ^ 63 - 1) / n := by
        apply Int.le_ediv_of_mul_le (by omega)
        omega
      omega
    · exact decide_eq_false (by rw [sizeLine_eq]; omega)
    · rw [if_neg hn]
      split
      · rename_i hc
        have e : strRep z n.toNat = z := by
          rw [Bool.or_eq_true] at hc
          rcases hc with hc | hc
          · have : n = 1 := by simpa using hc
            subst this
            show (⟨((List.replicate 1 z.cps.toList).flatten).toArray⟩ : Str) = z
            simp
          · have h0 : z.length = 0 := by simpa using hc
            have : z.cps = #[] := by simpa [Str.length] using h0
            show (⟨((List.replicate _ z.cps.toList).flatten).toArray⟩ : Str) = z
            obtain ⟨c⟩ := z
            simp at this
            subst this
            simp
        exact ⟨.str z, H, I, ⟨_, rfl⟩, k.str (by rw [e] at h; exact h)⟩
      · have e : (⟨(List.replicate n.toNat z.cps).foldl (· ++ ·) #[]⟩ : Str) = strRep z n.toNat := by
          unfold strRep
          rw [fold_app]
          simp
        rw [e]
        refine ⟨?_, .str _, H, I.tok _, ⟨_, rfl⟩, k.str h⟩
        rw [strRep_len, sizeLine_eq, Nat.mul_comm]; omega
  · cases h
/-! ### subscripts -/
def rIxP : R2p := fun x y P => match x, y with
  | .lst xs, .int i => ∃ v, atI xs i = some v ∧ P v
  | .tup xs, .int i => ∃ v, atI xs i = some v ∧ P v
  | .scr ns, .int i => ∃ v, atI ns i = some v ∧ P (.int v)
  | .str z, .int i => z.length ≤ sizeLine ∧ ∃ c, atI z.cps.toList i = some c ∧ P (.str ⟨#[c]⟩)
  | _, _ => False
theorem atI_reps {K : PySem.W.Frag} {O H} {xs : List PV} {vs : List V} {i : Int} {x : PV} (h : Reps K O H xs vs) (e : atI xs i = some x) : ∃ v, atI vs i = some v ∧ Rep K O H x v := by
  unfold atI at e ⊢
  rw [h.len]
  cases q : ixN xs.length i with
  | none => rw [q] at e; cases e
  | some j =>
    rw [q] at e
    obtain ⟨v, h1, h2⟩ := h.get (i := j) (x := x) e
    exact ⟨v, h1, h2⟩
theorem IxR.weak {r r' : R2} (h : IxR X r) (w : ∀ x y H Q, r' x y H Q → r x y H Q) : IxR X r' := fun value slice pins s σ H x y v u Q I rx ry q hs => h value slice pins s σ H x y v u Q I rx ry (w _ _ _ _ q) hs
theorem zx_ix : IxR X (r2 X.K rIxP) := by
  refine IxR.weak (ix_seq (X := X)) fun x y H Q h => ?_
  obtain ⟨O, px, py, P, tr, hx, hy, h, k⟩ := h
  unfold rIxP at h
  split at h
  · obtain ⟨w, e, h⟩ := h
    obtain ⟨a, vs, rfl, n, q, rr⟩ := hx.lst_
    obtain ⟨v, e1, r1⟩ := atI_reps rr e
    exact .inl ⟨a, vs, _, v, rfl, hy.int_, SqL.of q, e1, k _ _ _ h (Same.refl _) r1⟩
  · obtain ⟨w, e, h⟩ := h
    obtain ⟨a, vs, rfl, q, rr⟩ := hx.tup_
    obtain ⟨v, e1, r1⟩ := atI_reps rr e
    exact .inr (.inl ⟨a, vs, _, v, rfl, hy.int_, q.sq, e1, k _ _ _ h (Same.refl _) r1⟩)
  · obtain ⟨w, e, h⟩ := h
    obtain ⟨a, o, rfl, n, q⟩ := hx.scr_
    refine .inl ⟨a, _, _, .int w, rfl, hy.int_, .inl (.inr ⟨o, q⟩), ?_, k.int h⟩
    unfold atI at e ⊢
    rw [List.length_map]
    cases q : ixN _ _ with
    | none => rw [q] at e; cases e
    | some j =>
      rw [q] at e
      show (List.map V.int _)[j]? = _
      rw [List.getElem?_map, show _[j]? = some w from e]; rfl
  · obtain ⟨hz, c, e, h⟩ := h
    cases hx.str_
    exact .inr (.inr ⟨_, _, c, rfl, hy.int_, hz, e, k.str h⟩)
  · cases h
theorem z_ix (ha : PE X a (up X.K T ta)) (hb : PE X b (up X.K T tb)) (hs : PlainIx b := by exact fun _ _ => rfl) : PE X (.Subscript a b pos) (up X.K T (tOpP rIxP ta tb)) := by
  refine PE.weak (pe_ix zx_ix ha hb hs) fun σ H Q q => ?_
  obtain ⟨F, η, P, R, h, k⟩ := q
  refine ⟨F, η, _, R, h, fun x η1 v H1 h1 e1 R1 r1' => ⟨F, η1, _, R1, h1, fun y η2 w H2 h2 e2 R2' rw' => ?_⟩⟩
  exact ⟨Oof F σ η2, x, y, _, R2'.trO, r1'.car e2.car, rw', h2, fun z u H3 pz s rz => k z η2 u H3 pz ((e1.trans e2).trans (.same s)) (R2'.same s) rz⟩
def tIxOP (i : Nat) (ti : TEp) : TEp := fun η P => (∃ o, η[i]? = some (Sl.ow o)) ∧ ti η fun k η1 => match η1[i]? with
  | some (.ow (.l xs)) => ∃ kk v, k = .int kk ∧ atI xs kk = some v ∧ P v η1
  | _ => False
theorem z_ixO {i : Nat} (ho : PE X o (tVar i)) (hb : PE X b (up X.K T tb)) (hs : PlainIx b := by exact fun _ _ => rfl) : PE X (.Subscript o b pos) (up X.K T (tIxOP i tb)) := by
  refine PE.weak (pe_ix ix_list ho hb hs) fun σ H Q q => ?_
  obtain ⟨F, η, P, R, ⟨⟨oo, ho⟩, h⟩, k⟩ := q
  obtain ⟨b, hw, q0, _⟩ := R.ow i _ ho
  refine ⟨_, hw, F, η, _, R, h, fun y η1 u H1 h1 e1 R1 r1 => ?_⟩
  split at h1
  · rename_i xs e
    obtain ⟨kk, v, rfl, hv, h1⟩ := h1
    obtain ⟨a, s, ⟨vs, q1, q2⟩, nf⟩ := R1.ow i _ e
    rw [hw] at s; cases s
    obtain ⟨w, e1', r1'⟩ := atI_reps q2 hv
    exact ⟨b, vs, kk, w, rfl, r1.int_, SqL.of q1, e1', k _ _ _ _ h1 e1 R1 r1'⟩
  · cases h1
/-! slices -/
abbrev TOp := EP' → (Option Int → EP' → Prop) → Prop
def upO (K : PySem.W.Frag) (T : List (Addr × Str)) (tp : TOp) : TO := fun σ H Q => ∃ F η P, Rs K T F σ η H ∧ tp η P ∧ ∀ x η' H', P x η' → Ext σ η σ η' H H' → Rs K T F σ η' H' → Q x H'
def tNoPartP : TOp := fun η P => P none η
def tPartP (t : TEp) : TOp := fun η P => t η fun x η1 => match x with
  | .int i => P (some i) η1
  | _ => False
theorem PO.weak {e : Option Expr} {t t' : TO} (h : PO X e t) (w : ∀ σ H Q, t' σ H Q → t σ H Q) : PO X e t' := ⟨fun pins s σ H Q I q => h.run pins s σ H Q I (w _ _ _ q)⟩
theorem zp_none : PO X none (upO X.K T tNoPartP) := PO.weak po_none fun σ H Q q => by
  obtain ⟨F, η, P, R, h, k⟩ := q
  exact k _ _ _ h .refl R
theorem zp_some (h : PE X e (up X.K T te)) : PO X (some e) (upO X.K T (tPartP te)) := PO.weak (po_some h) fun σ H Q q => by
  obtain ⟨F, η, P, R, h, k⟩ := q
  refine ⟨F, η, _, R, h, fun x η1 v H1 h1 e1 R1 r => ?_⟩
  split at h1
  · exact ⟨_, r.int_, k _ _ _ h1 e1 R1⟩
  · cases h1
def cutP {α : Type} (xs : List α) (lo hi : Option Int) : List α := (xs.drop (HT.sIx xs.length 0 lo)).take (HT.sIx xs.length xs.length hi - HT.sIx xs.length 0 lo)
theorem cut_reps {K : PySem.W.Frag} {O H} {xs : List PV} {vs : List V} {lo hi} (h : Reps K O H xs vs) : Reps K O H (cutP xs lo hi) (cutV vs lo hi) := by
  unfold cutP cutV
  rw [h.len]
  exact (h.drop _).take _
def rSlP : PV → Option Int → Option Int → (PV → Prop) → Prop := fun x lo hi P => match x with
  | .lst xs => P (.lst (cutP xs lo hi))
  | .scr ns => P (.lst ((cutP ns lo hi).map .int))
  | .str z => z.length ≤ sizeLine ∧ P (.str (cutS z lo hi))
  | .tup xs => ¬ (HT.sIx xs.length 0 lo = 0 ∧ HT.sIx xs.length xs.length hi = xs.length) ∧ P (.tup (cutP xs lo hi))
  | _ => False
theorem SlR.weak {r r' : V → Option Int → Option Int → Hp → VK → Prop} (h : SlR X r) (w : ∀ x lo hi H Q, r' x lo hi H Q → r x lo hi H Q) : SlR X r' := fun pins s σ H x v vl vu lo hi sl Q I rx hs pl pu q => h pins s σ H x v vl vu lo hi sl Q I rx hs pl pu (w _ _ _ _ _ q)
theorem ints_reps {K : PySem.W.Frag} {O H} : ∀ ns : List Int, Reps K O H (ns.map .int) (ns.map V.int)
  | [] => .nil
  | _ :: r => .cons rep_int (ints_reps r)
theorem cut_ints (ns : List Int) (lo hi) : cutV (ns.map V.int) lo hi = (cutP ns lo hi).map V.int := by
  unfold cutP cutV
  rw [List.length_map, ← List.map_drop, ← List.map_take]
theorem zl_sl : SlR X (fun x lo hi H Q => ∃ O px P, Trk O H ∧ Rep X.K O H px x ∧ rSlP px lo hi P ∧ Out X.K O H P Q) := by
  refine SlR.weak ((sl_list (X := X)).or (sl_str.or sl_tup)) fun x lo hi H Q h => ?_
  obtain ⟨O, px, P, tr, hx, h, k⟩ := h
  unfold rSlP at h
  split at h
  · obtain ⟨a, vs, rfl, n, q, rr⟩ := hx.lst_
    exact .inl ⟨a, vs, rfl, SqL.of q, fun p hp => k.newL h tr (cut_reps rr) hp⟩
  · obtain ⟨a, o, rfl, n, q⟩ := hx.scr_
    refine .inl ⟨a, _, rfl, .inl (.inr ⟨o, q⟩), fun p hp => ?_⟩
    rw [cut_ints]
    exact k.newL h tr (ints_reps _) hp
  · cases hx.str_
    exact .inr (.inl ⟨_, rfl, h.1, k.str h.2⟩)
  · obtain ⟨a, vs, rfl, q, rr⟩ := hx.tup_
    exact .inr (.inr ⟨a, vs, rfl, q.sq, by rw [rr.len]; exact h.1, fun p hp => k.newT h.2 tr (cut_reps rr) hp⟩)
  · cases h
def tSliceP (te : TEp) (tl th : TOp) : TEp := fun η P => te η fun x η1 => tl η1 fun l η2 => th η2 fun u η3 => rSlP x l u fun z => P z η3
theorem z_slice {lo hi : Option Expr} {tl th : TOp} {p2 : Pos} (he : PE X e (up X.K T te)) (hl : PO X lo (upO X.K T tl)) (hu : PO X hi (upO X.K T th)) : PE X (.Subscript e (.Slice lo hi none p2) pos) (up X.K T (tSliceP te tl th)) := by
  refine PE.weak (pe_slice zl_sl he hl hu) fun σ H Q q => ?_
  obtain ⟨F, η, P, R, h, k⟩ := q
  refine ⟨F, η, _, R, h, fun x η1 v H1 h1 e1 R1 r1' => ⟨F, η1, _, R1, h1, fun l η2 H2 h2 e2 R2' => ⟨F, η2, _, R2', h2, fun u η3 H3 h3 e3 R3 => ?_⟩⟩⟩
  exact ⟨Oof F σ η3, x, _, R3.trO, (r1'.car e2.car).car e3.car, h3, fun z u H4 pz s rz => k z η3 u H4 pz (((e1.trans e2).trans e3).trans (.same s)) (R3.same s) rz⟩
/-! join -/
def strsOf : List PV → Option (List Str)
  | [] => some []
  | .str b :: r => (strsOf r).map (b :: ·)
  | _ => none
theorem strsOf_rep {K : PySem.W.Frag} {O H} : ∀ {xs : List PV} {bs : List Str} {vs : List V}, strsOf xs = some bs → Reps K O H xs vs → vs = bs.map V.str
  | [], _, _, e, h => by unfold strsOf at e; cases e; exact h.inv0
  | x :: xs, _, _, e, h => by
    obtain ⟨v, us, rfl, r, t⟩ := h.inv
    cases x <;> unfold strsOf at e <;> try (cases e)
    cases q : strsOf xs with
    | none => rw [q] at e; cases e
    | some r' =>
      rw [q] at e; cases e
      rw [r.str_, strsOf_rep q t]; rfl
def tJoinP (ta tb : TEp) : TEp := fun η P => ta η fun x η1 => (∃ z, x = .str z) ∧ tb η1 fun y η2 => match x, y with
  | .str z, .lst xs => ∃ ys, strsOf xs = some ys ∧ (ys.map (·.length)).sum + ys.length * z.length ≤ 16777216 ∧ P (.str (Txt.join z ys)) η2
  | _, _ => False
theorem z_join {K0 : PySem.W.Frag} (hK : X.K = K0)
    (pf : PE X e (tM1 (fun x xs H Q => ∃ a p, ∃ ys : List Str, x = .str a ∧ xs = [.ref p] ∧ (SqL K0 H p (ys.map V.str) ∨ SqT K0 H p (ys.map V.str)) ∧ (ys.map (·.length)).sum + ys.length * a.length ≤ 16777216 ∧ Q (.str (Txt.join a ys)) H) (up K0 T ta) (up K0 T tb))) : PE X e (up K0 T (tJoinP ta tb)) := by
  subst hK
  refine PE.weak pf fun σ H Q q => ?_
  obtain ⟨F, η, P, R, h, k⟩ := q
  refine ⟨F, η, _, R, h, fun x η1 v H1 h1 e1 R1 r1' => ?_⟩
  obtain ⟨⟨z, rfl⟩, h1⟩ := h1
  cases r1'.str_
  refine ⟨⟨z, rfl⟩, F, η1, _, R1, h1, fun y η2 w H2 h2 e2 R2' rw' => ?_⟩
  split at h2
  · rename_i z' xs q
    cases q
    obtain ⟨ys, e, hz, h2⟩ := h2
    obtain ⟨p, vs, rfl, n, q, rr⟩ := rw'.lst_
    have := strsOf_rep e rr
    subst this
    exact ⟨_, p, ys, rfl, rfl, .inl (SqL.of q), hz, k _ _ _ _ h2 (e1.trans e2) R2' rep_str⟩
  · cases h2
end
end Z
set_option Elab.async false
set_option linter.all false
set_option maxRecDepth 100000
namespace Z
open PySem PySem.Spec L2
open PyProof.Rows hiding St
/-! ### what is walked -/
def Itr8 (K : PySem.W.Frag) (O : Addr → Prop) (J : It) (xs : List PV) (H : Hp) : Prop :=
  ∀ O' H', Trk O' H' → Car O O' H H' → (∀ b, ¬ Nw H b → ¬ Nw H' b) → ∀ i : Nat, (∀ x, xs[i]? = some x → J.go i H' ∧ ∀ v H'', J.yld i H' v H'' → Same H' H'' ∧ Rep K O' H'' x v) ∧ (xs.length = i → J.stop i H')
abbrev TIp := EP' → (List PV → EP' → Prop) → Prop
def upI (K : PySem.W.Frag) (T : List (Addr × Str)) (tp : TIp) : TI := fun σ H R => ∃ F η P, Rs K T F σ η H ∧ tp η P ∧ ∀ xs η' J H', P xs η' → Ext σ η σ η' H H' → Rs K T F σ η' H' → Itr8 K (Oof F σ η') J xs H' → R J H'
section
variable {X : Cx} {T : List (Addr × Str)} {a b e o tg : Expr} {es : List Expr} {te ta tb : TEp} {t : TAp} {tf : TFp} {pos : Pos}
theorem PI.weak {t t' : TI} (h : PI X tg e t) (w : ∀ σ H Q, t' σ H Q → t σ H Q) : PI X tg e t' := ⟨fun pins s σ H Q I q => h.run pins s σ H Q I (w _ _ _ q)⟩
def iListP (te : TEp) : TIp := fun η P => te η fun x η1 => match x with
  | .lst xs => P xs η1
  | .scr ns => P (ns.map .int) η1
  | _ => False
def iTupP (te : TEp) : TIp := fun η P => te η fun x η1 => match x with
  | .tup xs => P xs η1
  | _ => False
def iStrP (te : TEp) : TIp := fun η P => te η fun x η1 => match x with
  | .str z => P (z.cps.toList.map fun c => .str ⟨#[c]⟩) η1
  | _ => False
def rangeP (lo : Int) (n : Nat) : List PV := (List.range n).map fun (i : Nat) => .int (lo + i)
def iRng1P (te : TEp) : TIp := fun η P => te η fun x η1 => match x with
  | .int j => -(2 ^ 62) ≤ j ∧ j < 2 ^ 62 ∧ P (rangeP 0 j.toNat) η1
  | _ => False
theorem it_list {K : PySem.W.Frag} {O H} {a : Addr} {xs : List PV} {vs : List V} (n : ¬ O a) (h : H a = some (.lst vs)) (r : Reps K O H xs vs) : Itr8 K O (Itl K a) xs H := fun O' H' tr c _ i => by
  have h' := (c a _ n h nofun).1
  have r' := r.car c
  have uniq : ∀ ys, SqL K H' a ys → ys = vs ∨ True := fun _ _ => .inr trivial
  refine ⟨fun x e => ?_, fun e => ⟨vs, SqL.of h', by rw [r'.len]; exact Nat.le_of_eq e⟩⟩
  obtain ⟨v, e1, r1⟩ := r'.get e
  refine ⟨⟨vs, v, SqL.of h', e1⟩, fun w H'' y => ?_⟩
  obtain ⟨e2, y⟩ := y
  subst e2
  have := y vs (SqL.of h')
  rw [e1] at this; cases this
  exact ⟨Same.refl _, r1⟩
theorem zi_list (h : PE X e (up X.K T te)) : PI X tg e (upI X.K T (iListP te)) := by
  refine PI.weak (pi_list h) fun σ H Q q => ?_
  obtain ⟨F, η, P, R, h, k⟩ := q
  refine ⟨F, η, _, R, h, fun x η1 v H1 h1 e1 R1 r1 => ?_⟩
  split at h1
  · obtain ⟨a, vs, rfl, n, q, rr⟩ := r1.lst_
    exact ⟨a, rfl, ⟨vs, SqL.of q⟩, k _ _ _ _ h1 e1 R1 (it_list n q rr)⟩
  · rename_i ns
    obtain ⟨a, o, rfl, n, q⟩ := r1.scr_
    refine ⟨a, rfl, ⟨_, .inl (.inr ⟨o, q⟩)⟩, k _ _ _ _ h1 e1 R1 fun O' H' tr c _ i => ?_⟩
    have h' : SqL X.K H' a (ns.map V.int) := .inl (.inr ⟨o, (c a _ n q nofun).1⟩)
    refine ⟨fun x e => ?_, fun e => ⟨_, h', by simp at e ⊢; omega⟩⟩
    have e' : (ns.map V.int)[i]? = (ns[i]?).map V.int := List.getElem?_map
    rw [List.getElem?_map] at e
    cases q : ns[i]? with
    | none => rw [q] at e; cases e
    | some j =>
      rw [q] at e e'; cases e
      refine ⟨⟨_, _, h', e'⟩, fun w H'' y => ?_⟩
      obtain ⟨e2, y⟩ := y
      subst e2
      have := y _ h'
      rw [e'] at this; cases this
      exact ⟨Same.refl _, rep_int⟩
  · cases h1
theorem TupAt.inj_car {K : PySem.W.Frag} {O O' H H'} {a : Addr} {vs : List V} (t : TupAt K O H a vs) (c : Car O O' H H') : SqT K H' a vs := (t.car c).sq
theorem zi_tup (h : PE X e (up X.K T te)) : PI X tg e (upI X.K T (iTupP te)) := by
  refine PI.weak (pi_tup h) fun σ H Q q => ?_
  obtain ⟨F, η, P, R, h, k⟩ := q
  refine ⟨F, η, _, R, h, fun x η1 v H1 h1 e1 R1 r1 => ?_⟩
  split at h1
  · obtain ⟨a, vs, rfl, q, rr⟩ := r1.tup_
    refine ⟨a, rfl, ⟨vs, q.sq⟩, k _ _ _ _ h1 e1 R1 fun O' H' tr c _ i => ?_⟩
    have h' := q.inj_car c
    have r' := rr.car c
    refine ⟨fun x e => ?_, fun e => ⟨vs, h', by rw [r'.len]; exact Nat.le_of_eq e⟩⟩
    obtain ⟨v, e1, r1⟩ := r'.get e
    refine ⟨⟨vs, v, h', e1⟩, fun w H'' y => ?_⟩
    obtain ⟨e2, y⟩ := y
    subst e2
    have := y vs h'
    rw [e1] at this; cases this
    exact ⟨Same.refl _, r1⟩
  · cases h1
theorem zi_str (h : PE X e (up X.K T te)) : PI X tg e (upI X.K T (iStrP te)) := by
  refine PI.weak (pi_str h) fun σ H Q q => ?_
  obtain ⟨F, η, P, R, h, k⟩ := q
  refine ⟨F, η, _, R, h, fun x η1 v H1 h1 e1 R1 r1 => ?_⟩
  split at h1
  · rename_i z
    cases r1.str_
    refine ⟨z, rfl, k _ _ _ _ h1 e1 R1 fun O' H' tr c _ i => ⟨fun x e => ?_, fun e => ?_⟩⟩
    · rw [List.getElem?_map] at e
      cases q : z.cps.toList[i]? with
      | none => rw [q] at e; cases e
      | some c0 =>
        rw [q] at e; cases e
        have q' : z.cps[i]? = some c0 := by rw [← Array.getElem?_toList]; exact q
        refine ⟨(Array.getElem?_eq_some_iff.mp q').1, fun w H'' y => ?_⟩
        obtain ⟨e2, c1, e3, rfl⟩ := y
        subst e2
        rw [q'] at e3; cases e3
        exact ⟨Same.refl _, rep_str⟩
    · show z.cps.size ≤ i
      simp at e; omega
  · cases h1
theorem it_range {K : PySem.W.Frag} {O H} {lo : Int} {n : Nat} : Itr8 K O (Itr lo n) (rangeP lo n) H := fun O' H' tr c _ i => by
  refine ⟨fun x e => ?_, fun e => ?_⟩
  · unfold rangeP at e
    rw [List.getElem?_map] at e
    by_cases hi : i < n
    · rw [List.getElem?_range hi] at e
      cases e
      refine ⟨hi, fun w H'' y => ?_⟩
      obtain ⟨e2, rfl⟩ := y
      subst e2
      exact ⟨Same.refl _, rep_int⟩
    · rw [List.getElem?_eq_none (by simpa using hi)] at e; cases e
  · show n ≤ i
    simp [rangeP] at e; omega
theorem zi_range1 {p : Pos} (hg : Gl X "range") (hm : X.mg "range" = none) (ha : PE X a (up X.K T te)) (hs : starEach [a] X.env = [(false, eval a X.env)] := by rfl) : PI X tg (.Call (.Name "range" p) [a] [] pos) (upI X.K T (iRng1P te)) := by
  refine PI.weak (pi_range1 hg hm (pa_cons ha pa_nil hs) hs) fun σ H Q q => ?_
  obtain ⟨F, η, P, R, h, k⟩ := q
  refine ⟨F, η, _, R, h, fun x η1 v H1 h1 e1 R1 r1 => ?_⟩
  split at h1
  · exact ⟨_, by rw [r1.int_], h1.1, h1.2.1, k _ _ _ _ h1.2.2 e1 R1 it_range⟩
  · cases h1
def iRng2P (te tb : TEp) : TIp := fun η P => te η fun x η1 => tb η1 fun y η2 => match x, y with
  | .int i, .int j => -(2 ^ 62) ≤ i ∧ i < 2 ^ 62 ∧ -(2 ^ 62) ≤ j ∧ j < 2 ^ 62 ∧ P (rangeP i (j - i).toNat) η2
  | _, _ => False
theorem zi_range2 {p : Pos} (hg : Gl X "range") (hm : X.mg "range" = none) (ha : PE X a (up X.K T ta)) (hb : PE X b (up X.K T tb)) (hs : starEach [a, b] X.env = [(false, eval a X.env), (false, eval b X.env)] := by rfl) (hs2 : starEach [b] X.env = [(false, eval b X.env)] := by rfl)
    (pf : PI X tg (.Call (.Name "range" p) [a, b] [] pos) (iRng2 (tCons (up X.K T ta) (tCons (up X.K T tb) tNil)))) : PI X tg (.Call (.Name "range" p) [a, b] [] pos) (upI X.K T (iRng2P ta tb)) := by
  refine PI.weak pf fun σ H Q q => ?_
  obtain ⟨F, η, P, R, h, k⟩ := q
  refine ⟨F, η, _, R, h, fun x η1 v H1 h1 e1 R1 r1 => ⟨F, η1, _, R1, h1, fun y η2 w H2 h2 e2 R2' r2 => ?_⟩⟩
  split at h2
  · exact ⟨_, _, by rw [(r1.car e2.car).int_, r2.int_], ⟨h2.1, h2.2.1, h2.2.2.1, h2.2.2.2.1⟩, k _ _ _ _ h2.2.2.2.2 (e1.trans e2) R2' it_range⟩
  · cases h2
/-! ### for -/
def tForP (ti : TIp) (g : TGp) (tb : TSp) : TSp := fun D η => ti η fun xs η1 => ∃ Inv : Nat → EP' → Prop, Inv 0 η1 ∧
  (∀ i x η2, xs[i]? = some x → Inv i η2 → g x η2 fun η3 => tb { D with nx := Inv (i + 1), ct := Inv (i + 1), bk := D.nx } η3) ∧ (∀ η2, Inv xs.length η2 → D.nx η2)
theorem z_for {iter : Expr} {body : List Stmt} {ti : TIp} {g : TGp} {tb : TSp} (hp : PassesOwn (model X.prog X.w) X.A X.env X.xe) (hc : X.calm = true) (hi : PI X tg iter (upI X.K T ti)) (hg : PG X tg (upG X.K T g)) (hb : PSs X body (upS X.K T tb))
    (hs : ∀ x, foldedSetIterable iter X.env x = pure x := by intro _; rfl) : PS X (.For tg iter body [] pos) (upS X.K T (tForP ti g tb)) := by
  refine PS.weak (ps_for hp hc hi hg hb hs) fun D σ H q => ?_
  obtain ⟨F, η, D', R, h, k1, k2, k3, k4⟩ := q
  refine ⟨F, η, _, R, h, fun xs η1 J H1 h1 e1 R1 hJ => ?_⟩
  obtain ⟨Inv, i0, step, fin⟩ := h1
  refine ⟨fun i m σ2 H2 => m = xs.length - i ∧ i ≤ xs.length ∧ ∃ η2, Inv i η2 ∧ Rs X.K T F σ2 η2 H2 ∧ Ext σ η1 σ2 η2 H1 H2, ⟨_, rfl, Nat.zero_le _, η1, i0, R1, .refl⟩, ?_⟩
  rintro i m σ2 H2 ⟨rfl, hi, η2, p, R2, e2⟩
  have it := hJ (Oof F σ2 η2) H2 R2.trO e2.car e2.live i
  by_cases hlt : i < xs.length
  · refine .inr ⟨(it.1 xs[i] (by simp [hlt])).1, fun σ3 H3 => ∃ η3, Inv (i + 1) η3 ∧ Rs X.K T F σ3 η3 H3 ∧ Ext σ η1 σ3 η3 H1 H3, fun σ' H' ⟨η3, p', R', e'⟩ => ⟨xs.length - (i + 1), by omega, rfl, hlt, η3, p', R', e'⟩, fun v H3 y => ?_⟩
    obtain ⟨s, rep⟩ := (it.1 xs[i] (by simp [hlt])).2 v H3 y
    refine ⟨F, η2, _, _, R2.same s, rep, step i _ η2 (by simp [hlt]) p, fun η4 σ4 H4 h4 e4 R4 => ?_⟩
    have E := (e2.trans (.same s)).trans e4
    exact ⟨F, η4, _, R4, h4, fun η5 σ5 H5 h5 e5 R5 => ⟨η5, h5, R5, E.trans e5⟩, fun η5 σ5 H5 h5 e5 R5 => k1 _ _ _ h5 ((e1.trans E).trans e5) R5, fun η5 σ5 H5 h5 e5 R5 => ⟨η5, h5, R5, E.trans e5⟩, fun x η5 σ5 v H5 h5 e5 R5 r5 => k4 _ _ _ _ _ h5 ((e1.trans E).trans e5) R5 r5⟩
  · have e : i = xs.length := by omega
    subst e
    exact .inl ⟨it.2 rfl, k1 _ _ _ (fin η2 p) (e1.trans e2) R2⟩
end
end Z
set_option Elab.async false
set_option linter.all false
set_option maxRecDepth 100000
namespace Z
open PySem PySem.Spec L2
open PyProof.Rows hiding St
def wipeP (η : EP') : List Nat → EP'
  | [] => η
  | v :: vs => (wipeP η vs).set v .no
theorem wipeP_len (η : EP') : ∀ vs : List Nat, (wipeP η vs).length = η.length
  | [] => rfl
  | v :: vs => by unfold wipeP; rw [List.length_set, wipeP_len η vs]
theorem wipeP_out {η : EP'} {i : Nat} : ∀ {vs : List Nat}, i ∉ vs → (wipeP η vs)[i]? = η[i]?
  | [], _ => rfl
  | v :: vs, h => by
    unfold wipeP
    rw [List.getElem?_set_ne (fun e => h (by simp [e])), wipeP_out fun z => h (by simp [z])]
theorem wipeP_in {η : EP'} {i : Nat} {y : Sl} : ∀ {vs : List Nat}, i ∈ vs → (wipeP η vs)[i]? = some y → y = .no
  | v :: vs, h, e => by
    unfold wipeP at e
    by_cases q : i = v
    · subst q; exact at_set e
    · rw [ne_set q] at e
      exact wipeP_in (by simpa [q] using h) e
theorem wipe_in {σ : St} {i : Nat} : ∀ {vs : List Nat}, i ∈ vs → (wipe σ vs)[i]? = if i < σ.length then some none else none
  | v :: vs, h => by
    unfold wipe
    by_cases q : i = v
    · subst q
      by_cases hi : i < σ.length
      · rw [if_pos hi, List.getElem?_set_self (by rw [wipe_length]; exact hi)]
      · rw [if_neg hi, List.getElem?_eq_none (by rw [List.length_set, wipe_length]; omega)]
    · rw [ne_set q]
      exact wipe_in (by simpa [q] using h)
theorem wipe_set {σ : St} {i : Nat} {v : Option V} {vs : List Nat} (h : i ∈ vs) : wipe (σ.set i v) vs = wipe σ vs := by
  apply List.ext_getElem?
  intro j
  by_cases hj : j ∈ vs
  · rw [wipe_in hj, wipe_in hj, List.length_set]
  · rw [wipe_out hj, wipe_out hj, ne_set fun e => hj (by rw [e]; exact h)]
theorem wipe_set_all {σ : St} {vs : List Nat} : L2.wipe (L2.wipe σ vs) vs = L2.wipe σ vs := by
  apply List.ext_getElem?
  intro j
  by_cases hj : j ∈ vs
  · rw [wipe_in hj, wipe_in hj, wipe_length]
  · rw [wipe_out hj]
theorem wipe_agree {σ σ' : St} {vs : List Nat} (h : wipe σ' vs = wipe σ vs) : σ'.length = σ.length ∧ ∀ j, j ∉ vs → σ'[j]? = σ[j]? := by
  refine ⟨by rw [← wipe_length σ' vs, h, wipe_length], fun j hj => ?_⟩
  rw [← wipe_out (σ := σ') hj, h, wipe_out hj]
section
variable {K : PySem.W.Frag} {T : List (Addr × Str)} {F : Addr → Prop} {σ σ' : St} {η : EP'} {H H' : Hp} {vs : List Nat}
theorem own_wipe (ag : ∀ j, j ∉ vs → σ'[j]? = σ[j]?) {b : Addr} (z : IsOwn σ' (wipeP η vs) b) : IsOwn σ η b := by
  obtain ⟨j, p, h1, h2⟩ := z
  by_cases hj : j ∈ vs
  · cases wipeP_in hj h2
  · rw [wipeP_out hj] at h2
    rw [ag j hj] at h1
    exact ⟨j, p, h1, h2⟩
theorem Rs.wipe (R : Rs K T F σ η H) (hl : σ'.length = σ.length) (ag : ∀ j, j ∉ vs → σ'[j]? = σ[j]?) : Rs K T F σ' (wipeP η vs) H := by
  have m : ∀ b, Oof F σ' (wipeP η vs) b → Oof F σ η b := Oof_mono fun b z => own_wipe ag z
  refine ⟨by rw [hl, R.len, wipeP_len], fun j y e => ?_, fun j o e => ?_, fun j k o o' a e1 e2 e3 e4 => ?_, R.tr, R.tb⟩
  · have hj : j ∉ vs := fun z => nomatch wipeP_in z e
    rw [wipeP_out hj] at e
    obtain ⟨w, h1, h2⟩ := R.va j y e
    exact ⟨w, (ag j hj).trans h1, h2.mono m⟩
  · have hj : j ∉ vs := fun z => nomatch wipeP_in z e
    rw [wipeP_out hj] at e
    obtain ⟨a, h1, h2, h3⟩ := R.ow j o e
    exact ⟨a, (ag j hj).trans h1, h2.mono m, h3⟩
  · have hj : j ∉ vs := fun z => nomatch wipeP_in z e1
    have hk : k ∉ vs := fun z => nomatch wipeP_in z e2
    rw [wipeP_out hj] at e1
    rw [wipeP_out hk] at e2
    rw [ag j hj] at e3
    rw [ag k hk] at e4
    exact R.nd j k o o' a e1 e2 e3 e4
theorem Ext.wipe (ag : ∀ j, j ∉ vs → σ'[j]? = σ[j]?) : Ext σ η σ' (wipeP η vs) H H := ⟨fun _ _ e _ _ => e, fun _ e => e, fun b z => .inl (own_wipe ag z), fun o e => by
  have hj : 0 ∉ vs := fun z => nomatch wipeP_in z e
  rw [wipeP_out hj] at e
  exact ⟨o, e, ag 0 hj⟩⟩
theorem Rs.updF {D : Addr} {us ws : List V} (R : Rs K T F σ η H) (hF : F D) (h : H D = some (.lst us)) : Rs K T F σ η (upd H D (.lst ws)) := by
  have c : Car (Oof F σ η) (Oof F σ η) H (upd H D (.lst ws)) := fun b q n hb _ => ⟨by rw [upd_ne (fun z => n (.inl (by rw [z]; exact hF)))]; exact hb, n⟩
  refine ⟨R.len, fun i x e => ?_, fun i o e => ?_, R.nd, fun b hb => ?_, Tabs.upd R.tb h nofun nofun⟩
  · obtain ⟨v, h1, h2⟩ := R.va i x e
    exact ⟨v, h1, h2.car c⟩
  · obtain ⟨a, h1, h2, h3⟩ := R.ow i o e
    exact ⟨a, h1, h2.car c (upd_ne fun z => h3 (by rw [z]; exact hF)), h3⟩
  · exact live_upd nofun (R.tr b hb)
end
section
variable {X : Cx} {T : List (Addr × Str)} {a b e o tg elt iter : Expr} {es ifs : List Expr} {te ta tb : TEp} {t : TAp} {tf : TFp} {pos : Pos}
def upGw (K : PySem.W.Frag) (T : List (Addr × Str)) (vs : List Nat) (g : TGp) : TG := fun v σ H Q => ∃ F η x P, Rs K T F σ η H ∧ Rep K (Oof F σ η) H x v ∧ g x η P ∧ ∀ η' σ' H', P η' → L2.wipe σ' vs = L2.wipe σ vs → Ext σ η σ' η' H H' → Rs K T F σ' η' H' → Q σ' H'
def upGsw (K : PySem.W.Frag) (T : List (Addr × Str)) (vs : List Nat) (g : TGsp) : TGs := fun us σ H Q => ∃ F η xs P, Rs K T F σ η H ∧ Reps K (Oof F σ η) H xs us ∧ g xs η P ∧ ∀ η' σ' H', P η' → L2.wipe σ' vs = L2.wipe σ vs → Ext σ η σ' η' H H' → Rs K T F σ' η' H' → Q σ' H'
theorem zgw_name {vs : List Nat} {i : Nat} (hv : i ∈ vs) (pf : PG X tg (gName i)) : PG X tg (upGw X.K T vs (gNameP i)) := by
  refine PG.weak pf fun v σ H Q q => ?_
  obtain ⟨F, η, x, P, R, r, h, k⟩ := q
  exact k _ _ _ h (wipe_set hv) .setv (R.setv r)
theorem zgsw_nil {vs : List Nat} : PGs X [] (upGsw X.K T vs gNilP) := by
  refine PGs.weak pgs_nil fun v σ H Q q => ?_
  obtain ⟨F, η, x, P, R, r, h, k⟩ := q
  rw [h.1] at r
  exact ⟨r.inv0, k _ _ _ h.2 rfl .refl R⟩
theorem zgsw_cons {vs : List Nat} {t : TGp} {u : TGsp} (pf : PGs X (e :: es) (gCons (upGw X.K T vs t) (upGsw X.K T vs u))) : PGs X (e :: es) (upGsw X.K T vs (gConsP t u)) := by
  refine PGs.weak pf fun v σ H Q q => ?_
  obtain ⟨F, η, x, P, R, r, h, k⟩ := q
  unfold gConsP at h
  split at h
  · obtain ⟨v, us, rfl, r1, r2⟩ := r.inv
    refine ⟨v, us, rfl, F, η, _, _, R, r1, h, fun η' σ' H' h' w1 e1 R1 => ⟨F, η', _, P, R1, r2.car e1.car, h', fun η'' σ'' H'' h'' w2 e2 R2 => k _ _ _ h'' (w2.trans w1) (e1.trans e2) R2⟩⟩
  · cases h
theorem zgw_tup {vs : List Nat} {k n : Nat} {t : TGsp} (pf : PG X (.Tuple es k pos) (gTup X.K n (upGsw X.K T vs t))) : PG X (.Tuple es k pos) (upGw X.K T vs (gTupP n t)) := by
  refine PG.weak pf fun v σ H Q q => ?_
  obtain ⟨F, η, x, P, R, r, h, k⟩ := q
  unfold gTupP at h
  split at h
  · obtain ⟨a, vs, rfl, t, r⟩ := r.tup_
    exact ⟨a, vs, rfl, t.sq, by rw [r.len]; exact h.1, F, η, _, P, R, r, h.2, k⟩
  · cases h
def tYesP : TTp := fun η P => P true η
theorem PTs.weak {t t' : TT} (h : PTs X ifs t) (w : ∀ σ H Q, t' σ H Q → t σ H Q) : PTs X ifs t' := ⟨fun pins s σ H Q I q => h.run pins s σ H Q I (w _ _ _ q)⟩
theorem zts_nil : PTs X [] (upB X.K T tYesP) := PTs.weak pts_nil fun σ H Q q => by
  obtain ⟨F, η, P, R, h, k⟩ := q
  exact k _ _ _ h .refl R
theorem zts_one {c : Expr} {t : TTp} (h : PT X c (upB X.K T t)) : PTs X [c] (upB X.K T t) := pts_one h
def tLcP (ti : TIp) (g : TGp) (tt : TTp) (te : TEp) (vs : List Nat) : TFp := fun η P => ti η fun xs η1 => ∃ Inv : Nat → List PV → EP' → Prop, Inv 0 [] (wipeP η1 vs) ∧
  (∀ i x acc η2, xs[i]? = some x → Inv i acc η2 → g x (wipeP η2 vs) fun η3 => tt η3 fun b η4 => if b = true then te η4 fun y η5 => acc.length < sizeLine ∧ Inv (i + 1) (acc ++ [y]) (wipeP η5 vs) else Inv (i + 1) acc (wipeP η4 vs)) ∧
  (∀ acc η2, Inv xs.length acc η2 → P acc η2)
theorem lc_weak {K : PySem.W.Frag} {ti : TIp} {g : TGp} {tt : TTp} {te : TEp} {vs : List Nat} {σ : St} {H : Hp} {Q : VK} (q : upF K T (tLcP ti g tt te vs) σ H Q) : tLc (upI K T ti) (upGw K T vs g) (upB K T tt) (up K T te) vs σ H Q := by
  obtain ⟨F, η, P, R, h, k⟩ := q
  refine ⟨F, η, _, R, h, fun xs η1 J H1 h1 e1 R1 hJ D hD => ?_⟩
  obtain ⟨Inv, i0, step, fin⟩ := h1
  have hn : Nw H D := e1.nw (Nw.of hD)
  have nF : ¬ F D := fun z => R.tr D z hn
  have agw : ∀ j, j ∉ vs → (L2.wipe σ vs)[j]? = σ[j]? := fun j hj => wipe_out hj
  refine ⟨fun i m H2 => m = xs.length - i ∧ i ≤ xs.length ∧ ∃ acc us η2, Inv i acc η2 ∧ Rs K T (With F D) σ η2 H2 ∧ Ext σ η1 σ η2 H1 H2 ∧ H2 D = some (.lst us) ∧ Reps K (Oof (With F D) σ η2) H2 acc us, ⟨_, rfl, Nat.zero_le _, [], [], wipeP η1 vs, i0, (R1.add (o := .lst []) hD nofun).wipe rfl (fun _ _ => rfl), ?_, upd_same, .nil⟩, ?_⟩
  · exact (Ext.same (Same.new hD)).trans (.wipe fun _ _ => rfl)
  rintro i m H2 ⟨rfl, hi, acc, us, η2, p, R2, e2, hd, ru⟩
  have Rb : Rs K T (With F D) (L2.wipe σ vs) (wipeP η2 vs) H2 := R2.wipe (wipe_length _ _) agw
  have eb : Ext σ η1 (L2.wipe σ vs) (wipeP η2 vs) H1 H2 := e2.trans (.wipe agw)
  have carD : Car (Oof F σ η1) (Oof (With F D) (L2.wipe σ vs) (wipeP η2 vs)) H1 H2 := fun b o n hb t => by
    refine ⟨((eb.car (F := F)) b o n hb t).1, fun z => ?_⟩
    rcases z with (z | z) | z
    · exact n (.inl z)
    · rw [z, hD] at hb; cases hb
    · exact ((eb.car (F := F)) b o n hb t).2 (.inr z)
  have it := hJ _ H2 Rb.trO carD e2.live i
  by_cases hlt : i < xs.length
  · refine .inr ⟨(it.1 xs[i] (by simp [hlt])).1, fun H3 => ∃ acc us η3, Inv (i + 1) acc η3 ∧ Rs K T (With F D) σ η3 H3 ∧ Ext σ η1 σ η3 H1 H3 ∧ H3 D = some (.lst us) ∧ Reps K (Oof (With F D) σ η3) H3 acc us,
      fun H' ⟨acc, us, η3, q1, q2, q3, q4, q5⟩ => ⟨xs.length - (i + 1), by omega, rfl, hlt, acc, us, η3, q1, q2, q3, q4, q5⟩, fun v H3 y => ?_⟩
    obtain ⟨s, rep⟩ := (it.1 xs[i] (by simp [hlt])).2 v H3 y
    refine ⟨With F D, wipeP η2 vs, _, _, Rb.same s, rep, step i _ acc η2 (by simp [hlt]) p, fun η4 σ4 H4 h4 w4 e4 R4 => ⟨by rw [w4]; exact wipe_set_all, With F D, η4, _, R4, h4, fun c η5 H5 h5 e5 R5 => ?_⟩⟩
    have E5 : Ext σ η1 σ4 η5 H1 H5 := ((eb.trans (.same s)).trans e4).trans e5
    have ag4 : ∀ j, j ∉ vs → σ[j]? = σ4[j]? := fun j hj => ((wipe_agree (w4.trans wipe_set_all)).2 j hj).symm
    have ln4 : σ.length = σ4.length := ((wipe_agree (w4.trans wipe_set_all)).1).symm
    cases c with
    | true =>
      simp only [if_true] at h5 ⊢
      refine ⟨With F D, η5, _, R5, h5, fun y η6 w H6 h6 e6 R6 r6 => ?_⟩
      have E6 := E5.trans e6
      have e36 : Ext (L2.wipe σ vs) (wipeP η2 vs) σ4 η6 H2 H6 := (((Ext.same s).trans e4).trans e5).trans e6
      have dk : H6 D = some (.lst us) := e36.keep D _ hd (fun z => by
        obtain ⟨j, p, z1, z2⟩ := z
        obtain ⟨a, q1, q2, q3⟩ := Rb.ow j p z2
        rw [z1] at q1; cases q1
        exact q3 (.inr rfl)) nofun
      have ru6 : Reps K (Oof (With F D) σ4 η6) H6 acc us := (ru.car ((Ext.wipe agw).car (F := With F D))).car (e36.car (F := With F D))
      refine ⟨us, dk, by rw [ru.len]; exact h6.1, acc ++ [y], us ++ [w], wipeP η6 vs, h6.2, (R6.updF (.inr rfl) dk).wipe ln4 ag4, ?_, upd_same, ?_⟩
      · refine Ext.trans ⟨fun b o hb nb t => ?_, fun b hb => ?_, E6.new, E6.fst⟩ (Ext.wipe ag4)
        · rw [upd_ne (fun z => by rw [z, hD] at hb; cases hb)]; exact E6.keep b o hb nb t
        · exact live_upd nofun (E6.live b hb)
      · have c7 : Car (Oof (With F D) σ4 η6) (Oof (With F D) σ4 η6) H6 (upd H6 D (.lst (us ++ [w]))) := fun b o n hb _ => ⟨by rw [upd_ne (fun z => n (.inl (.inr z)))]; exact hb, n⟩
        exact ((ru6.app (.cons r6 .nil)).car c7).car ((Ext.wipe (H := upd H6 D (.lst (us ++ [w]))) ag4).car (F := With F D))
    | false =>
      simp only [Bool.false_eq_true, if_false] at h5 ⊢
      have e35 : Ext (L2.wipe σ vs) (wipeP η2 vs) σ4 η5 H2 H5 := ((Ext.same s).trans e4).trans e5
      have dk : H5 D = some (.lst us) := e35.keep D _ hd (fun z => by
        obtain ⟨j, p, z1, z2⟩ := z
        obtain ⟨a, q1, q2, q3⟩ := Rb.ow j p z2
        rw [z1] at q1; cases q1
        exact q3 (.inr rfl)) nofun
      exact ⟨acc, us, wipeP η5 vs, h5, R5.wipe ln4 ag4, E5.trans (.wipe ag4), dk, ((ru.car ((Ext.wipe agw).car (F := With F D))).car (e35.car (F := With F D))).car ((Ext.wipe ag4).car (F := With F D))⟩
  · have e : i = xs.length := by omega
    subst e
    exact .inl ⟨it.2 rfl, k acc η2 D us H2 (fin acc η2 p) (e1.trans e2) R2 hn nF hd ru⟩
theorem zf_lc {scope : Scope} {own : List (Str × Nat)} {ti : TIp} {g : TGp} {tt : TTp}
    (pf : PE X (.ListComp elt [⟨tg, iter, ifs, 0⟩] scope pos) (tLc (upI X.K T ti) (upGw X.K T (own.map (·.2)) g) (upB X.K T tt) (up X.K T te) (own.map (·.2)))) : PE X (.ListComp elt [⟨tg, iter, ifs, 0⟩] scope pos) (upF X.K T (tLcP ti g tt te (own.map (·.2)))) :=
  PE.weak pf fun σ H Q q => lc_weak q
end
end Z
set_option Elab.async false
set_option linter.all false
set_option maxRecDepth 100000
namespace Z
open PySem PySem.Spec L2
open PyProof.Rows hiding St
/-! ### promises over plain values -/
abbrev SpP := List PV → (PV → Prop) → Prop
abbrev SpR := Ow → List PV → (PV → Ow → Prop) → Prop
def upSp (K : PySem.W.Frag) (T : List (Addr × Str)) (sp : SpP) : Sp := fun vs H Q _ => ∃ F args P, Trk F H ∧ LamX.Tabs T H ∧ Reps K F H args vs ∧ sp args P ∧ ∀ x v H', P x → Gr H H' → LamX.Tabs T H' → Rep K F H' x v → Q v H'
structure GrB (a : Addr) (H H' : Hp) : Prop where
  keep : ∀ b o, b ≠ a → H b = some o → (∀ ps, o ≠ .tbl ps) → H' b = some o
  live : ∀ b, ¬ Nw H b → ¬ Nw H' b
def upSpR (K : PySem.W.Frag) (T : List (Addr × Str)) (sp : SpR) : Sp := fun vs H Q _ => ∃ F a ws o args P, vs = .ref a :: ws ∧ ¬ F a ∧ Trk F H ∧ LamX.Tabs T H ∧ OwAt K (With F a) H a o ∧ Reps K (With F a) H args ws ∧ sp o args P ∧
  ∀ x o' v H', P x o' → GrB a H H' → LamX.Tabs T H' → OwAt K (With F a) H' a o' → Rep K (With F a) H' x v → Q v H'
def startP (n : Nat) (args : List PV) : EP' := args.map Sl.va ++ List.replicate (n - args.length) .no
section
variable {K : PySem.W.Frag} {T : List (Addr × Str)} {F : Addr → Prop} {H H' : Hp}
theorem start_of {N : List Str} {vs : List V} {i : Nat} {v : V} (h : vs[i]? = some v) : (start N vs)[i]? = some (some v) := by
  have hi : i < vs.length := (List.getElem?_eq_some_iff.mp h).1
  unfold L2.start
  rw [List.getElem?_append_left (by simpa using hi), List.getElem?_map, h]; rfl
theorem startP_va {n : Nat} {args : List PV} {i : Nat} {s : Sl} (h : (startP n args)[i]? = some s) : (∃ x, s = .va x ∧ args[i]? = some x) ∨ s = .no := by
  unfold startP at h
  by_cases hi : i < args.length
  · rw [List.getElem?_append_left (by simpa using hi), List.getElem?_map] at h
    cases q : args[i]? with
    | none => rw [q] at h; cases h
    | some w => rw [q] at h; cases h; exact .inl ⟨w, rfl, rfl⟩
  · rw [List.getElem?_append_right (by simpa using hi), List.getElem?_replicate] at h
    split at h
    · cases h; exact .inr rfl
    · cases h
theorem startP_noown {n : Nat} {args : List PV} {σ : St} {a : Addr} : ¬ IsOwn σ (startP n args) a := by
  rintro ⟨i, o, h1, h2⟩
  rcases startP_va h2 with ⟨x, e, _⟩ | e <;> cases e
theorem rs_start {N : List Str} {args : List PV} {vs : List V} (tr : Trk F H) (tb : LamX.Tabs T H) (r : Reps K F H args vs) (hl : args.length ≤ N.length) : Rs K T F (start N vs) (startP N.length args) H := by
  have m : ∀ b, Oof F (start N vs) (startP N.length args) b → F b := fun b z => z.elim id fun z => absurd z startP_noown
  refine ⟨?_, fun i x e => ?_, fun i o e => ?_, fun i j o o' a e => ?_, tr, tb⟩
  · unfold L2.start startP
    simp [r.len]
  · rcases startP_va e with ⟨y, q, hy⟩ | q
    · cases q
      obtain ⟨v, h1, h2⟩ := r.get hy
      exact ⟨v, start_of h1, h2.mono m⟩
    · cases q
  · rcases startP_va e with ⟨y, q, _⟩ | q <;> cases q
  · rcases startP_va e with ⟨y, q, _⟩ | q <;> cases q
def startR (n : Nat) (o : Ow) (args : List PV) : EP' := .ow o :: startP (n - 1) args
theorem rs_startR {x : Str} {N : List Str} {a : Addr} {o : Ow} {args : List PV} {ws : List V} (nf : ¬ F a) (tr : Trk F H) (tb : LamX.Tabs T H) (ho : OwAt K (With F a) H a o) (r : Reps K (With F a) H args ws) (hl : args.length ≤ N.length) :
    Rs K T F (start (x :: N) (.ref a :: ws)) (startR (N.length + 1) o args) H ∧ ∀ b, IsOwn (start (x :: N) (.ref a :: ws)) (startR (N.length + 1) o args) b → b = a := by
  have e0 : start (x :: N) (.ref a :: ws) = some (.ref a) :: start N ws := by
    unfold L2.start
    simp
  have e1 : startR (N.length + 1) o args = .ow o :: startP N.length args := by
    unfold startR
    simp
  rw [e0, e1]
  have own : ∀ b, IsOwn (some (V.ref a) :: start N ws) (Sl.ow o :: startP N.length args) b → b = a := by
    rintro b ⟨i, p, h1, h2⟩
    cases i with
    | zero => simp at h1; exact h1.symm
    | succ i =>
      simp at h2
      rcases startP_va h2 with ⟨y, q, _⟩ | q <;> cases q
  have m : ∀ b, Oof F (some (V.ref a) :: start N ws) (Sl.ow o :: startP N.length args) b → With F a b := fun b z => z.elim .inl fun z => .inr (own b z)
  refine ⟨⟨?_, fun i y e => ?_, fun i p e => ?_, fun i j p p' b e1 e2 e3 e4 => ?_, tr, tb⟩, own⟩
  · unfold L2.start startP
    simp [r.len]
  · cases i with
    | zero => simp at e
    | succ i =>
      simp at e
      rcases startP_va e with ⟨z, q, hy⟩ | q
      · cases q
        obtain ⟨v, h1, h2⟩ := r.get hy
        exact ⟨v, by simpa using start_of h1, h2.mono m⟩
      · cases q
  · cases i with
    | zero =>
      simp at e
      subst e
      exact ⟨a, rfl, ho.mono m, nf⟩
    | succ i =>
      simp at e
      rcases startP_va e with ⟨z, q, hy⟩ | q <;> cases q
  · have z : ∀ {i p}, (Sl.ow o :: startP N.length args)[i]? = some (Sl.ow p) → i = 0 := fun {i p} e => by
      cases i with
      | zero => rfl
      | succ i =>
        simp at e
        rcases startP_va e with ⟨z, q, hy⟩ | q <;> cases q
    rw [z e1, z e2]
theorem body_sp {N : List Str} {sp : SpP} {ts : TSp} {vs : List V} {Q : VK} {E : XK} (h : upSp K T sp vs H Q E) (hl : ∀ args P, sp args P → args.length ≤ N.length) (rd : ∀ args P, sp args P → ts { nx := fun _ => P .non, rt := fun x _ => P x } (startP N.length args)) :
    upS K T ts { nx := fun _ H' => Q .non H', rt := Q } (start N vs) H := by
  obtain ⟨F, args, P, tr, tb, r, hs, k⟩ := h
  have R := rs_start (N := N) tr tb r (hl _ _ hs)
  have gr : ∀ {σ' η' H'}, Ext (start N vs) (startP N.length args) σ' η' H H' → Gr H H' := fun e => ⟨fun b o h t => e.keep b o h startP_noown t, e.live⟩
  refine ⟨F, _, _, R, rd args P hs, fun η' σ' H' q e R' => ?_, fun _ _ _ q => q.elim, fun _ _ _ q => q.elim, fun x η' σ' v H' q e R' r' => ?_⟩
  · exact k _ _ _ q (gr e) R'.tb rep_non
  · exact k _ _ _ q (gr e) R'.tb (r'.mono fun b z => .inl z)
theorem body_spR {nm : Str} {N : List Str} {sp : SpR} {ts : TSp} {vs : List V} {Q : VK} {E : XK} (h : upSpR K T sp vs H Q E) (hl : ∀ o args P, sp o args P → args.length ≤ N.length)
    (rd : ∀ o args P, sp o args P → ts { nx := fun η' => ∃ o', η'[0]? = some (Sl.ow o') ∧ P .non o', rt := fun x η' => ∃ o', η'[0]? = some (Sl.ow o') ∧ P x o' } (startR (N.length + 1) o args)) :
    upS K T ts { nx := fun _ H' => Q .non H', rt := Q } (start (nm :: N) vs) H := by
  obtain ⟨F, a, ws, o, args, P, rfl, nf, tr, tb, ho, r, hs, k⟩ := h
  obtain ⟨R, own⟩ := rs_startR (x := nm) (N := N) nf tr tb ho r (hl _ _ _ hs)
  have fin : ∀ {η' σ' H' x v}, (∃ o', η'[0]? = some (Sl.ow o') ∧ P x o') → Ext (start (nm :: N) (.ref a :: ws)) (startR (N.length + 1) o args) σ' η' H H' → Rs K T F σ' η' H' → Rep K (Oof F σ' η') H' x v → Q v H' := by
    intro η' σ' H' x v q e R' r'
    obtain ⟨o', e0, p⟩ := q
    obtain ⟨p1, q1, q2⟩ := e.fst o' e0
    obtain ⟨b, s1, s2, s3⟩ := R'.ow 0 o' e0
    have hb : b = a := by
      rw [q2] at s1
      have : (start (nm :: N) (V.ref a :: ws))[0]? = some (some (V.ref a)) := by unfold L2.start; simp
      rw [this] at s1; cases s1; rfl
    subst hb
    have m : ∀ c, With F b c → Oof F σ' η' c := fun c z => z.elim .inl fun z => .inr (by rw [z]; exact ⟨0, o', s1, e0⟩)
    exact k x o' v H' p ⟨fun c u n h t => e.keep c u h (fun z => n (own c z)) t, e.live⟩ R'.tb (s2.mono m) (r'.mono m)
  exact ⟨F, _, _, R, rd o args P hs, fun η' σ' H' q e R' => fin q e R' rep_non, fun _ _ _ q => q.elim, fun _ _ _ q => q.elim, fun x η' σ' v H' q e R' r' => fin q e R' r'⟩
end
end Z
set_option Elab.async false
set_option linter.all false
set_option maxRecDepth 100000
namespace Z
open PySem PySem.Spec L2
open PyProof.Rows hiding St
section
variable {P : Program} {w : World} {K : PySem.W.Frag} {mg : Str → Option Value} {base : Heap} {T : List (Addr × Str)}
theorem len_sp {ps : List Str} {sp : SpP} (hl : ∀ args P, sp args P → args.length = ps.length) : ∀ vs H Q E, upSp K T sp vs H Q E → vs.length = ps.length := fun vs H Q E h => by
  obtain ⟨F, args, P, _, _, r, hs, _⟩ := h
  rw [r.len, hl _ _ hs]
theorem len_spR {p : Str} {ps : List Str} {sp : SpR} (hl : ∀ o args P, sp o args P → args.length = ps.length) : ∀ vs H Q E, upSpR K T sp vs H Q E → vs.length = (p :: ps).length := fun vs H Q E h => by
  obtain ⟨F, a, ws, o, args, P, rfl, _, _, _, _, r, hs, _⟩ := h
  rw [List.length_cons, List.length_cons, r.len, hl _ _ _ hs]
theorem okP {x qual : Str} {st : Stmt} {f : Addr} {fd : FuncData} {N ps : List Str} {k : Nat} {sp : SpP} (Fn : Fun K x qual st f fd) (S : FnScope N ps (defScope st)) (hl : ∀ args P, sp args P → args.length = ps.length) (hn : ps.length ≤ N.length)
    (hbody : ∀ (cdv : Value) (A : Around) (outer : List Env) (s : Shared) (H : Hp) (E : XK), Room k (A.deeper (envOfC qual (defScope st) s.heap.objs.size f cdv)) →
      ∃ ts, PSs (cxOf CX0 P w K mg base N qual (defScope st) f cdv A outer s H E).nox (defBody st) (upS K T ts) ∧ ∀ args P, sp args P → ts { nx := fun _ => P .non, rt := fun x _ => P x } (startP N.length args)) :
    FnOk P w K mg base CX0 (k + 1) f fd ps (upSp K T sp) := by
  refine Fn.ok S (len_sp hl) fun cdv A outer s H vs Q E hr h => ?_
  obtain ⟨ts, d, rd⟩ := hbody cdv A outer s H E hr
  exact ⟨_, d, body_sp h (fun args P hs => by rw [hl _ _ hs]; exact hn) rd⟩
theorem okR {x qual : Str} {st : Stmt} {f : Addr} {fd : FuncData} {nm : Str} {N ps : List Str} {k : Nat} {sp : SpR} (Fn : Fun K x qual st f fd) (S : FnScope (nm :: N) (nm :: ps) (defScope st)) (hl : ∀ o args P, sp o args P → args.length = ps.length) (hn : ps.length ≤ N.length)
    (hbody : ∀ (cdv : Value) (A : Around) (outer : List Env) (s : Shared) (H : Hp) (E : XK), Room k (A.deeper (envOfC qual (defScope st) s.heap.objs.size f cdv)) →
      ∃ ts, PSs (cxOf CX0 P w K mg base (nm :: N) qual (defScope st) f cdv A outer s H E).nox (defBody st) (upS K T ts) ∧
        ∀ o args P, sp o args P → ts { nx := fun η' => ∃ o', η'[0]? = some (Sl.ow o') ∧ P .non o', rt := fun x η' => ∃ o', η'[0]? = some (Sl.ow o') ∧ P x o' } (startR (N.length + 1) o args)) :
    FnOk P w K mg base CX0 (k + 1) f fd (nm :: ps) (upSpR K T sp) := by
  refine Fn.ok S (len_spR hl) fun cdv A outer s H vs Q E hr h => ?_
  obtain ⟨ts, d, rd⟩ := hbody cdv A outer s H E hr
  exact ⟨_, d, body_spR h (fun o args P hs => by rw [hl _ _ _ hs]; exact hn) rd⟩
/-! ### the same where nothing is being shown (repr) -/
structure FnG (P : Program) (w : World) (K : PySem.W.Frag) (mg : Str → Option Value) (base : Heap) (k : Nat) (f : Addr) (fd : FuncData) (ps : List Str) (sp : Sp) : Prop where
  len : ∀ vs H Q E, sp vs H Q E → vs.length = ps.length
  run : ∀ (A : Around) (outer : List Env) (s : Shared) (H : Hp) (args : Args) (us : List Value) (vs : List V) (Q : VK) (E : XK), A.guards = some [] → Room k A → Env0 P w K mg base A outer s H → BindsTo s fd args (ps.zip us) → Vals vs us → sp vs H Q E →
    codeAny (model P w) A (.call (.ref f) args) (CR CX0 outer P w H s Q E) s
theorem FnOk.g {k : Nat} {f : Addr} {fd : FuncData} {ps : List Str} {sp : Sp} (F : FnOk P w K mg base CX0 k f fd ps sp) : FnG P w K mg base k f fd ps sp := ⟨F.len, fun A outer s H args us vs Q E _ => F.run A outer s H args us vs Q E⟩
theorem FnG.mono {j k : Nat} {f : Addr} {fd : FuncData} {ps : List Str} {sp : Sp} (F : FnG P w K mg base j f fd ps sp) (h : j ≤ k) : FnG P w K mg base k f fd ps sp := ⟨F.len, fun A outer s H args us vs Q E hg hr => F.run A outer s H args us vs Q E hg (hr.mono h)⟩
end
/-! ### calls -/
section
variable {X : Cx} {T : List (Addr × Str)} {a b e o : Expr} {es : List Expr} {te ta tb : TEp} {t : TAp} {tf : TFp} {pos p apos : Pos} {k : Nat} {f C : Addr} {fd : FuncData} {ps : List Str} {sp : SpP} {sr : SpR} {x m : Str}
def tCallP (sp : SpP) (dps : List PV) (t : TAp) : TEp := fun η P => t η fun args η1 => sp (args ++ dps) fun z => P z η1
theorem call_up {K : PySem.W.Frag} {σ : St} {H : Hp} {Q : VK} {E : XK} {dps : List PV} {dvs : List V} (hd : ∀ O H, Reps K O H dps dvs) (q : up K T (tCallP sp dps t) σ H Q) : tCall (upSp K T sp) dvs E (upA K T t) σ H Q := by
  obtain ⟨F, η, P, R, h, k⟩ := q
  refine ⟨F, η, _, R, h, fun args η1 vs H1 h1 e1 R1 r1 => ?_⟩
  exact ⟨Oof F σ η1, _, _, R1.trO, R1.tb, r1.app (hd _ _), h1, fun z v H2 pz g tb rz => k z η1 v H2 pz (e1.trans g.ext) (R1.gr g tb) rz⟩
theorem z_call (Fn : FnOk X.prog X.w X.K X.mg X.base CX0 k f fd ps (upSp X.K T sp)) (hr : Room k X.A) (hg : Gl X x) (hm : X.mg x = some (.ref f)) (hk : PySem.W.keepIn X.K (.ref f) = true) {dvs : List V} {ds : List Value} {dps : List PV} (hb : Binds X.K fd ps ds) (hd : Vals dvs ds) (hp : ∀ O H, Reps X.K O H dps dvs)
    (ha : PA X (e :: es) (upA X.K T t)) (hdb : (x == ("__debug__" : Str)) = false := by decide) (he : starEach (e :: es) X.env = (false, eval e X.env) :: starEach es X.env := by rfl) (hpl : (backTo pos (starEach es X.env)).any (·.1) = false := by rfl) :
    PE X (.Call (.Name x p) (e :: es) [] pos) (up X.K T (tCallP sp dps t)) :=
  PE.weak (pe_call Fn hr hg hm hk hb hd pass0 ha hdb he hpl) fun σ H Q q => call_up hp q
def tCallRP (i : Nat) (sr : SpR) (t : TAp) : TEp := fun η P => (∃ o, η[i]? = some (Sl.ow o)) ∧ t η fun args η1 => match η1[i]? with
  | some (.ow o) => sr o args fun z o' => P z (η1.set i (.ow o'))
  | _ => False
theorem callR_up {K : PySem.W.Frag} {σ : St} {H : Hp} {Q : VK} {E : XK} {i : Nat} (q : up K T (tCallRP i sr t) σ H Q) : tCall (upSpR K T sr) [] E (tCons (tVar i) (upA K T t)) σ H Q := by
  obtain ⟨F, η, P, R, ⟨⟨oo, ho⟩, h⟩, k⟩ := q
  obtain ⟨b, hw, _, _⟩ := R.ow i _ ho
  refine ⟨_, hw, F, η, _, R, h, fun args η1 vs H1 h1 e1 R1 r1 => ?_⟩
  split at h1
  · rename_i o e
    obtain ⟨a, s, q0, nf⟩ := R1.ow i o e
    rw [hw] at s; cases s
    -- the other own ones and the foreign ones
    let F' : Addr → Prop := fun c => Oof F σ η1 c ∧ c ≠ b
    have m1 : ∀ c, With F' b c → Oof F σ η1 c := fun c z => z.elim (fun z => z.1) fun z => by rw [z]; exact .inr ⟨i, o, hw, e⟩
    have m2 : ∀ c, Oof F σ η1 c → With F' b c := fun c z => by
      by_cases q : c = b
      · exact .inr q
      · exact .inl ⟨z, q⟩
    refine ⟨F', b, vs, o, args, _, by simp, fun z => z.2 rfl, fun c z => R1.trO c z.1, R1.tb, q0.mono m1, r1.mono m1, h1, fun z o' v H2 pz g tb ho' rz => ?_⟩
    have c1 : Car (Oof F σ η1) (Oof F σ η1) H1 H2 := fun c u n hc t => ⟨g.keep c u (fun z => n (by rw [z]; exact .inr ⟨i, o, hw, e⟩)) hc t, n⟩
    have oth : ∀ c, c ≠ b → IsOwn σ η1 c → H2 c = H1 c := fun c n z => by
      obtain ⟨j, p, z1, z2⟩ := z
      obtain ⟨c', q1, q2, q3⟩ := R1.ow j p z2
      rw [z1] at q1; cases q1
      cases p with
      | l xs => obtain ⟨us, y, _⟩ := q2; rw [y]; exact g.keep _ _ n y nofun
      | o C fs => obtain ⟨dx, us, y, _⟩ := q2; rw [y]; exact g.keep _ _ n y nofun
      | d kvs => obtain ⟨us, y, _⟩ := q2; rw [y]; exact g.keep _ _ n y nofun
    have R2 := R1.put (o' := o') e hw c1 oth (fun c z => g.live c (R1.tr c z)) tb (ho'.mono m2)
    have E2 : Ext σ η1 σ (η1.set i (.ow o')) H1 H2 := by
      refine ⟨fun c u hc n t => g.keep c u (fun z => n (by rw [z]; exact ⟨i, o, hw, e⟩)) hc t, g.live, fun c z => .inl ((own_put e).mp z), fun p q => ?_⟩
      by_cases z : (0 : Nat) = i
      · subst z; exact ⟨o, e, rfl⟩
      · rw [ne_set z] at q; exact ⟨p, q, rfl⟩
    exact k _ _ _ _ pz (e1.trans E2) R2 (rz.mono fun c z => m2 c (Oof_mono (fun b' z => (own_put e).mp z) c z))
  · cases h1
theorem z_callR {i : Nat} {e0 : Expr} (Fn : FnOk X.prog X.w X.K X.mg X.base CX0 k f fd ps (upSpR X.K T sr)) (hr : Room k X.A) (hg : Gl X x) (hm : X.mg x = some (.ref f)) (hk : PySem.W.keepIn X.K (.ref f) = true) (hb : Binds X.K fd ps [])
    (ha : PA X (e0 :: es) (tCons (tVar i) (upA X.K T t))) (hdb : (x == ("__debug__" : Str)) = false := by decide) (he : starEach (e0 :: es) X.env = (false, eval e0 X.env) :: starEach es X.env := by rfl) (hpl : (backTo pos (starEach es X.env)).any (·.1) = false := by rfl) :
    PE X (.Call (.Name x p) (e0 :: es) [] pos) (up X.K T (tCallRP i sr t)) :=
  PE.weak (pe_call Fn hr hg hm hk hb .nil pass0 ha hdb he hpl) fun σ H Q q => callR_up q
end
end Z
set_option Elab.async false
set_option linter.all false
set_option maxRecDepth 100000
namespace Z
open PySem PySem.Spec L2
open PyProof.Rows hiding St
section
variable {X : Cx} {T : List (Addr × Str)} {a b e o : Expr} {es : List Expr} {te ta tb : TEp} {t : TAp} {tf : TFp} {pos p apos : Pos} {k : Nat} {f C : Addr} {fd : FuncData} {ps : List Str} {sp : SpP} {sr : SpR} {x m : Str} {st : Stmt} {rest : List Stmt} {t1 : TSp}
/-! ### a def that hands out a new list -/
abbrev SpF := List PV → (List PV → Prop) → Prop
def upSpF (K : PySem.W.Frag) (T : List (Addr × Str)) (sp : SpF) : Sp := fun vs H Q _ => ∃ F args P, Trk F H ∧ LamX.Tabs T H ∧ Reps K F H args vs ∧ sp args P ∧ ∀ xs a us H', P xs → Gr H H' → LamX.Tabs T H' → Nw H a → H' a = some (.lst us) → Reps K (With F a) H' xs us → Q (.ref a) H'
def upSF (K : PySem.W.Frag) (T : List (Addr × Str)) (tf : TFp) : TS := fun D σ H => ∃ F η P, Rs K T F σ η H ∧ tf η P ∧ ∀ xs η' a us σ' H', P xs η' → Ext σ η σ' η' H H' → Rs K T (With F a) σ' η' H' → Nw H a → H' a = some (.lst us) → Reps K (Oof (With F a) σ' η') H' xs us → D.rt (.ref a) H'
def tSeqFP (t : TSp) (u : TFp) : TFp := fun η P => t { nx := fun η' => u η' P, rt := fun _ _ => False } η
theorem zsf_ret (he : PE X e (upF X.K T tf)) : PSs X [.Return (some e) pos] (upSF X.K T tf) := by
  refine pss_one (PS.weak (ps_ret he) fun D σ H q => ?_)
  obtain ⟨F, η, P, R, h, k⟩ := q
  exact ⟨F, η, P, R, h, fun xs η' a us H' q e R' hn nf hv r => k xs η' a us σ H' q e R' hn hv r⟩
theorem zsf_cons (h1 : PS X st (upS X.K T t1)) (h2 : PSs X rest (upSF X.K T tf)) : PSs X (st :: rest) (upSF X.K T (tSeqFP t1 tf)) := by
  refine PSs.weak (pss_cons h1 h2) fun D σ H q => ?_
  obtain ⟨F, η, P, R, h, k⟩ := q
  refine ⟨F, η, _, R, h, fun η1 σ1 H1 q e1 R1 => ?_, fun _ _ _ q => q.elim, fun _ _ _ q => q.elim, fun _ _ _ _ _ q => q.elim⟩
  refine ⟨F, η1, P, R1, q, fun xs η' a us σ' H' q e R' hn hv r => k xs η' a us σ' H' q (e1.trans e) R' (e1.nw hn) hv r⟩
theorem okF {P : Program} {w : World} {K : PySem.W.Frag} {mg : Str → Option Value} {base : Heap} {x qual : Str} {st : Stmt} {f : Addr} {fd : FuncData} {N ps : List Str} {k : Nat} {sp : SpF} (Fn : Fun K x qual st f fd) (S : FnScope N ps (defScope st)) (hl : ∀ args P, sp args P → args.length = ps.length) (hn : ps.length ≤ N.length)
    (hbody : ∀ (cdv : Value) (A : Around) (outer : List Env) (s : Shared) (H : Hp) (E : XK), Room k (A.deeper (envOfC qual (defScope st) s.heap.objs.size f cdv)) →
      ∃ tf, PSs (cxOf CX0 P w K mg base N qual (defScope st) f cdv A outer s H E).nox (defBody st) (upSF K T tf) ∧ ∀ args P, sp args P → tf (startP N.length args) fun xs _ => P xs) :
    FnOk P w K mg base CX0 (k + 1) f fd ps (upSpF K T sp) := by
  refine Fn.ok S (fun vs H Q E h => ?_) fun cdv A outer s H vs Q E hr h => ?_
  · obtain ⟨F, args, P, _, _, r, hs, _⟩ := h
    rw [r.len, hl _ _ hs]
  · obtain ⟨tf, d, rd⟩ := hbody cdv A outer s H E hr
    obtain ⟨F, args, P, tr, tb, r, hs, k⟩ := h
    have R := rs_start (N := N) tr tb r (by rw [hl _ _ hs]; exact hn)
    refine ⟨_, d, F, _, _, R, rd args P hs, fun xs η' a us σ' H' q e R' hn hv r => ?_⟩
    exact k xs a us H' q ⟨fun b o h t => e.keep b o h startP_noown t, e.live⟩ R'.tb hn hv (r.mono fun b z => .inl z)
def tCallFP (sp : SpF) (t : TAp) : TFp := fun η P => t η fun args η1 => sp args fun xs => P xs η1
theorem z_callF {sp : SpF} (Fn : FnOk X.prog X.w X.K X.mg X.base CX0 k f fd ps (upSpF X.K T sp)) (hr : Room k X.A) (hg : Gl X x) (hm : X.mg x = some (.ref f)) (hk : PySem.W.keepIn X.K (.ref f) = true) (hb : Binds X.K fd ps [])
    (ha : PA X (e :: es) (upA X.K T t)) (hdb : (x == ("__debug__" : Str)) = false := by decide) (he : starEach (e :: es) X.env = (false, eval e X.env) :: starEach es X.env := by rfl) (hpl : (backTo pos (starEach es X.env)).any (·.1) = false := by rfl) :
    PE X (.Call (.Name x p) (e :: es) [] pos) (upF X.K T (tCallFP sp t)) := by
  refine PE.weak (pe_call Fn hr hg hm hk hb .nil pass0 ha hdb he hpl) fun σ H Q q => ?_
  obtain ⟨F, η, P, R, h, k⟩ := q
  refine ⟨F, η, _, R, h, fun args η1 vs H1 h1 e1 R1 r1 => ?_⟩
  refine ⟨Oof F σ η1, _, _, R1.trO, R1.tb, by rw [List.append_nil]; exact r1, h1, fun xs a us H2 pz g tb hn hv rz => ?_⟩
  have hn0 : Nw H a := e1.nw hn
  have nF : ¬ F a := fun z => R.tr a z hn0
  have nO : ¬ Oof F σ η1 a := fun z => R1.trO a z hn
  have m : ∀ b, Oof (With F a) σ η1 b → With (Oof F σ η1) a b := fun b z => by
    rcases z with (z | z) | z
    · exact .inl (.inl z)
    · exact .inr z
    · exact .inl (.inr z)
  -- the frame over the grown heap, a among the foreign ones
  have R2 : Rs X.K T F σ η1 H2 := R1.gr g tb
  have c : Car (Oof F σ η1) (Oof (With F a) σ η1) H1 H2 := fun b u n hb t => ⟨g.keep b u hb t, fun z => by
    rcases z with (z | z) | z
    · exact n (.inl z)
    · exact hn.no (by rw [← z]; exact hb) t
    · exact n (.inr z)⟩
  have R3 : Rs X.K T (With F a) σ η1 H2 := by
    refine ⟨R2.len, fun i y e => ?_, fun i o e => ?_, R2.nd, fun b z => ?_, tb⟩
    · obtain ⟨v, q1, q2⟩ := R1.va i y e
      exact ⟨v, q1, q2.car c⟩
    · obtain ⟨b, q1, q2, q3⟩ := R1.ow i o e
      refine ⟨b, q1, q2.car c ?_, fun z => z.elim q3 fun z => nO (by rw [← z]; exact .inr ⟨i, o, q1, e⟩)⟩
      cases o with
      | l xs => obtain ⟨vs, q, _⟩ := q2; rw [q]; exact g.keep _ _ q nofun
      | o C fs => obtain ⟨dx, ws, q, _⟩ := q2; rw [q]; exact g.keep _ _ q nofun
      | d kvs => obtain ⟨ws, q, _⟩ := q2; rw [q]; exact g.keep _ _ q nofun
    · rcases z with z | z
      · exact R2.tr b z
      · rw [z]; exact fun q => q.no hv nofun
  exact k xs η1 a us H2 pz (e1.trans g.ext) R3 hn0 nF hv (rz.mono m)
def tCallRFP (tf : TFp) (sr : SpR) (t : TAp) : TEp := fun η P => tf η fun xs η1 => t η1 fun args η2 => sr (.l xs) args fun z _ => P z η2
theorem callRF_up {K : PySem.W.Frag} {σ : St} {H : Hp} {Q : VK} {E : XK} (q : up K T (tCallRFP tf sr t) σ H Q) : tCall (upSpR K T sr) [] E (tCons (upF K T tf) (upA K T t)) σ H Q := by
  obtain ⟨F, η, P, R, h, k⟩ := q
  refine ⟨F, η, _, R, h, fun xs η1 a us H1 h1 e1 R1 hn nf hv r => ⟨With F a, η1, _, R1, h1, fun args η2 vs H2 h2 e2 R2 r2 => ?_⟩⟩
  have na : ¬ IsOwn σ η1 a := fun z => by
    obtain ⟨j, p, z1, z2⟩ := z
    obtain ⟨b, q1, q2, q3⟩ := R1.ow j p z2
    rw [z1] at q1; cases q1
    exact q3 (.inr rfl)
  have na2 : ¬ IsOwn σ η2 a := fun z => by
    obtain ⟨j, p, z1, z2⟩ := z
    obtain ⟨b, q1, q2, q3⟩ := R2.ow j p z2
    rw [z1] at q1; cases q1
    exact q3 (.inr rfl)
  have hv2 : H2 a = some (.lst us) := e2.keep a _ hv na nofun
  have c12 := e2.car (F := With F a)
  let F' : Addr → Prop := Oof F σ η2
  have m1 : ∀ c, With F' a c → Oof (With F a) σ η2 c := fun c z => by
    rcases z with (z | z) | z
    · exact .inl (.inl z)
    · exact .inr z
    · exact .inl (.inr z)
  have m2 : ∀ c, Oof (With F a) σ η2 c → With F' a c := fun c z => by
    rcases z with (z | z) | z
    · exact .inl (.inl z)
    · exact .inr z
    · exact .inl (.inr z)
  refine ⟨F', a, vs, .l xs, args, _, by simp, fun z => z.elim nf na2, fun c z => R2.trO c (m1 c (.inl z)), R2.tb, ⟨us, hv2, (r.car c12).mono m1⟩, r2.mono m1, h2, fun z o' v H3 pz g tb ho' rz => ?_⟩
  have c3 : Car (Oof (With F a) σ η2) (Oof F σ η2) H2 H3 := fun c u n hc t => ⟨g.keep c u (fun q => n (by rw [q]; exact .inl (.inr rfl))) hc t, fun z => n (z.elim (fun z => .inl (.inl z)) .inr)⟩
  have R3 : Rs K T F σ η2 H3 := by
    refine ⟨R2.len, fun i y e => ?_, fun i o e => ?_, R2.nd, fun b z => g.live b (R2.tr b (.inl z)), tb⟩
    · obtain ⟨v, q1, q2⟩ := R2.va i y e
      exact ⟨v, q1, q2.car c3⟩
    · obtain ⟨b, q1, q2, q3⟩ := R2.ow i o e
      have nb : b ≠ a := fun z => q3 (.inr z)
      refine ⟨b, q1, q2.car c3 ?_, fun z => q3 (.inl z)⟩
      cases o with
      | l xs => obtain ⟨vs, q, _⟩ := q2; rw [q]; exact g.keep _ _ nb q nofun
      | o C fs => obtain ⟨dx, ws, q, _⟩ := q2; rw [q]; exact g.keep _ _ nb q nofun
      | d kvs => obtain ⟨ws, q, _⟩ := q2; rw [q]; exact g.keep _ _ nb q nofun
  have E2 := e1.trans e2
  refine k _ _ _ _ pz ⟨fun b u hb n t => g.keep b u (fun z => hn.no (by rw [← z]; exact hb) t) (E2.keep b u hb n t) t, fun b hb => g.live b (E2.live b hb), E2.new, E2.fst⟩ R3 (rz.mono fun c z => .inl z)
theorem z_callRF {e0 : Expr} (Fn : FnOk X.prog X.w X.K X.mg X.base CX0 k f fd ps (upSpR X.K T sr)) (hr : Room k X.A) (hg : Gl X x) (hm : X.mg x = some (.ref f)) (hk : PySem.W.keepIn X.K (.ref f) = true) (hb : Binds X.K fd ps [])
    (ha : PA X (e0 :: es) (tCons (upF X.K T tf) (upA X.K T t))) (hdb : (x == ("__debug__" : Str)) = false := by decide) (he : starEach (e0 :: es) X.env = (false, eval e0 X.env) :: starEach es X.env := by rfl) (hpl : (backTo pos (starEach es X.env)).any (·.1) = false := by rfl) :
    PE X (.Call (.Name x p) (e0 :: es) [] pos) (up X.K T (tCallRFP tf sr t)) :=
  PE.weak (pe_call Fn hr hg hm hk hb .nil pass0 ha hdb he hpl) fun σ H Q q => callRF_up q
/-! ### instances -/
end
end Z
set_option Elab.async false
set_option linter.all false
set_option maxRecDepth 100000
namespace Z
open PySem PySem.Spec L2
open PyProof.Rows hiding St
/-! ### enumerate over a tuple -/
set_option maxHeartbeats 1000000 in
theorem meets_enum1 {v : Value} {o : Obj} {H : Heap → Prop} (B : Begins v o H) : Meets (Builtin.«enumerate.__new__» ⟨[.type "enumerate", v], []⟩) (fun _ R s => H s.heap ∧
    R (.ok (.ret (.ref (s.heap.push o).objs.size))) { s with heap := (s.heap.push o).push { cls := .type "enumerate", data := .fields #[.none, .bool false, .ref s.heap.objs.size, rawInt 0, .none, .none] } }) := by
  refine .of_wp fun prog w A R s q => ?_
  obtain ⟨hp, g, d, tk, os⟩ := s
  obtain ⟨h1, q⟩ := q
  have hs := sub_enumerate
  have it : ∀ {A' : Around} {E : Value → Shared → Prop} {Q : Value → Shared → Prop}, Q (.ref hp.objs.size) ⟨hp.push o, g, d, tk, os⟩ → wpAny (model prog w) A' (pyIter v) Q E ⟨hp, g, d, tk, os⟩ := fun z => B.iter prog w _ _ ⟨hp, g, d, tk, os⟩ _ h1 z
  wp_walk using it
  refine wpAny_stack_any fun st => wpAny_pure ?_
  split
  · rename_i c _ _ _ _ _
    cases (c == Value.type "enumerate") <;> (wp_walk using it; exact ⟨_, rfl, q⟩)
  · wp_walk using it
    exact ⟨_, rfl, q⟩
theorem call_enum1 {prog : Program} {w : World} {A : Around} {E : Value → Shared → Prop} {s : Shared} {v : Value} {o : Obj} {H : Heap → Prop} {Q : Value → Shared → Prop} (B : Begins v o H) (h1 : H s.heap)
    (q : ∀ h', IsEnum h' (s.heap.objs.size + 1) s.heap.objs.size 0 .none → h'.get? s.heap.objs.size = some o → (∀ b u, s.heap.get? b = some u → h'.get? b = some u) → Q (.ref (s.heap.objs.size + 1)) { s with heap := h' }) :
    wpAny (model prog w) A (call (.type "enumerate") [v]) Q E s := by
  refine callType_new F.called_enumerate (by decide) (F.typeCall_enumerate_1 _) (F.newCall_enumerate_1 _) (fun obj => F.args_object_init_2 obj _) F.entry_enumerate_new (meets_enum1 B) ⟨h1, ?_⟩
  have z : (s.heap.push o).objs.size = s.heap.objs.size + 1 := Heap.size_push ..
  show _ ∧ _
  rw [z]
  have he : ((s.heap.push o).push { cls := .type "enumerate", data := .fields #[.none, .bool false, .ref s.heap.objs.size, rawInt 0, .none, .none] }).get? (s.heap.objs.size + 1) = some { cls := .type "enumerate", data := .fields #[.none, .bool false, .ref s.heap.objs.size, rawInt 0, .none, .none] } := by
    rw [← z]; exact Heap.get?_push_size _ rfl
  exact ⟨⟨_, he, rfl⟩, q _ he (Heap.get?_push_of_some _ (Heap.get?_push_size _ B.free)) fun b u e => Heap.get?_push_of_some _ (Heap.get?_push_of_some _ e)⟩
def Itte (K : PySem.W.Frag) (a : Addr) : It where
  go := fun i H => ∃ (xs : List V) (x : V), SqT K H a xs ∧ xs[i]? = some x
  yld := fun i H v H' => ∃ p x, v = .ref p ∧ H p = none ∧ H' = upd H p (.tup [.int (i : Nat), x]) ∧ ∀ xs, SqT K H a xs → xs[i]? = some x
  stop := fun i H => ∃ xs : List V, SqT K H a xs ∧ xs.length = i
def TnE (a e it : Addr) (i : Nat) (h : Heap) : Prop := (∃ old, IsEnum h e it (0 + ((i : Nat) : Int)) old) ∧ h.IsTupleIter it a i ∧ e ≠ it
theorem tne_apart {a e it : Addr} {i : Nat} {h : Heap} {items : Array Value} (t : TnE a e it i h) (p : IsTup h a items) : a ≠ it ∧ e ∉ [it, a] := by
  obtain ⟨⟨old, he⟩, ⟨oi, hi, ci, _⟩, ne⟩ := t
  obtain ⟨o, ho, hc, _⟩ := p
  refine ⟨fun z => ?_, fun z => ?_⟩
  · rw [z, hi] at ho; cases ho; rw [ci] at hc; simp at hc
  · rcases List.mem_cons.mp z with z | z
    · exact ne z
    · have z : e = a := by simpa using z
      have he' : h.get? e = some _ := he
      rw [z, ho] at he'; cases he'; simp at hc
theorem turn_enumT {P : Program} {w : World} {K : PySem.W.Frag} {elts : List Expr} {kk : Nat} {tpos : Pos} (a e it : Addr) : Turn P w K (.Tuple elts kk tpos) (Itte K a) [e, it] e (TnE a e it) where
  mem := by simp
  obj := fun i h st b hb => by
    obtain ⟨⟨old, he⟩, ⟨oi, hi, ci, di⟩, _⟩ := st
    rcases List.mem_cons.mp hb with z | z
    · rw [z]; exact ⟨_, he, fun v q => nomatch q⟩
    · have z : b = it := by simpa using z
      rw [z]; exact ⟨oi, hi, fun v q => by rw [di] at q; cases q⟩
  keep := fun i h h' st k => by
    obtain ⟨⟨old, he⟩, hi, ne⟩ := st
    exact ⟨⟨old, k e (by simp) _ he⟩, hi.at fun o q => k it (by simp) o q, ne⟩
  item := by
    intro X hP hw hK hc i pins s σ H E I hf st hg
    subst hP hw hK
    obtain ⟨xs, x, hq, hx⟩ := hg
    obtain ⟨its, rv, p, hz⟩ := I.tuple hq
    obtain ⟨u, hu, ru⟩ := rv.get hx
    obtain ⟨n1, n2⟩ := tne_apart st p
    have W := WalksT.enumFrom 0 (Draws.tuple (prog := X.prog) (w := X.w) (A := X.A.in1) (I.ok.hd hc) it a n1 its.toArray) e st.2.2 n2 (by simp)
    have hi : i < its.toArray.size := by
      have := (List.getElem?_eq_some_iff.mp hu).1
      simpa using this
    refine W.item i s _ _ hi ⟨st.1, st.2.1, p⟩ fun q vals h' tk ⟨t, y, hy, ev⟩ hq' hT hm hk => ?_
    have ey : y = u := by
      rw [Array.getElem?_eq_getElem hi] at hy
      rw [List.getElem?_eq_getElem (by simpa using hi)] at hu
      simp at hy hu
      rw [← hy, ← hu]
    subst ey
    refine ⟨_, rfl, W.go elts kk tpos i q { s with heap := h', toks := tk } _ _ hm fun h'' st' hk' => ?_⟩
    have nq := W.apart i q h' hm
    have hT2 : IsTup h'' q vals := by
      obtain ⟨o, z1, z2⟩ := hT
      exact ⟨o, hk' q o nq z1, z2⟩
    have kp : ∀ b o, b ∉ [e, it] → s.heap.get? b = some o → h''.get? b = some o := fun b o hb z => hk' b o hb (hk b o hb z)
    have new : ObjOk X.prog X.w (upd H q (.tup [.int (i : Nat), x])) h'' q (.tup [.int (i : Nat), x]) := by
      refine ⟨by show 2 ≤ sizeLine; decide, [.int (0 + (i : Int)) t, y], .cons ⟨t, by rw [Int.zero_add]⟩ (.cons ru .nil), ?_⟩
      rw [ev] at hT2; exact hT2
    have hn : H q = none := I.hok.fresh hq'
    refine ⟨.ref q, _, I.turnedNew (t' := tk) (ch := [e, it]) kp hf hq' new, rfl, ⟨q, x, rfl, hn, rfl, fun ys hy => by rw [I.tuple_inj hy hq]; exact hx⟩, ⟨st'.1, st'.2.1, st.2.2⟩, fun b hb => ?_⟩
    have hb' : b ≠ q := fun z => nq (by rw [← z]; exact hb)
    rw [upd_ne hb']
    exact (hf b hb).1
  done := by
    intro X hP hw hK hc i pins s σ H E I hf st hg
    subst hP hw hK
    obtain ⟨xs, hq, hx⟩ := hg
    obtain ⟨its, rv, p, hz⟩ := I.tuple hq
    obtain ⟨n1, n2⟩ := tne_apart st p
    have W := WalksT.enumFrom 0 (Draws.tuple (prog := X.prog) (w := X.w) (A := X.A.in1) (I.ok.hd hc) it a n1 its.toArray) e st.2.2 n2 (by simp)
    have hl : its.toArray.size = i := by rw [← hx, rv.length]; simp
    refine W.done s _ _ (by rw [hl]; exact ⟨st.1, st.2.1, p⟩) fun h' tk kp => ⟨rfl, ?_⟩
    have nit : ∀ b u, H b = some u → b ∉ [e, it] := fun b u z hb => by
      have := (hf b hb).1
      rw [this] at z; cases z
    exact I.step (g' := s.gens) (d' := s.drawn) (t' := tk) (ch := [e, it]) (fun b hb => ⟨(hf b hb).2.2.2.1, (hf b hb).2.1, (hf b hb).2.2.2.2.1, (hf b hb).2.2.2.2.2⟩) (fun b o _ _ hb z _ => kp b o hb z) (fun b o _ _ hb z _ => ⟨o.slots, kp b o hb z⟩) (fun _ _ _ _ n => n)
      (fun b o hb z => ⟨o, kp b o hb z⟩) (fun _ _ z => z) (fun _ _ _ z => z) (fun b ps z => ⟨#[], by rw [z]; simp⟩) (fun m hm => by
        obtain ⟨o, es, ep, ho, r⟩ := hm
        exact ⟨o, es, ep, kp _ o (fun z => (hf _ z).2.1 rfl) ho, r⟩) (fun b u z => (I.hok b u z).stay (fun c v hc q => kp c v (fun y => by
          rcases hc with hc | hc
          · exact nit b u z (by rw [← hc]; exact y)
          · exact nit c _ hc y) q) (fun _ q => q) fun _ _ q => q) I.bare
  self := fun A i s Q E st q => by
    obtain ⟨⟨old, he⟩, _⟩ := st
    exact wpAny_pyIter_enum he q
def iEnumT (K : PySem.W.Frag) (te : TE) : TI := fun σ H R => te σ H fun v H1 => ∃ a xs, [v] = [V.ref a] ∧ SqT K H1 a xs ∧ R (Itte K a) H1
theorem pi_enumT {X : Cx} {e : Expr} {te : TE} {p pos tpos : Pos} {elts : List Expr} {kk : Nat} (hg : Gl X "enumerate") (hm : X.mg "enumerate" = none) (he : PE X e te) (hs : starEach [e] X.env = [(false, eval e X.env)] := by rfl) :
    PI X (.Tuple elts kk tpos) (.Call (.Name "enumerate" p) [e] [] pos) (iEnumT X.K te) := by
  constructor
  intro pins s σ H R I h
  refine Call_ (ld_blt I hg hm boot_enumerate (PyProof.Rows.callWith_type1 (thn ((pa_cons he pa_nil hs).run pos pins s σ H (fun vs H1 => ∃ a xs, vs = [V.ref a] ∧ SqT X.K H1 a xs ∧ R (Itte X.K a) H1) I h) fun us s1 ⟨vs, H1, I1, r1, q1⟩ => ?_) hs rfl))
  obtain ⟨a, xs, rfl, hq, q⟩ := q1
  obtain ⟨u, rfl, ru⟩ := vals1 r1
  cases ru
  obtain ⟨its, rv, p', hz⟩ := I1.tuple hq
  refine call_enum1 (begins_tuple a its.toArray) p' fun h' he hit hk => wpAny_pyIter_enum he ?_
  have I2 : L2.Inv X pins σ H1 { s1 with heap := h' } := I1.kept (t' := s1.toks) hk
  refine ⟨s1.heap.objs.size + 1, [s1.heap.objs.size + 1, s1.heap.objs.size], _, _, H1, rfl, I2, turn_enumT a (s1.heap.objs.size + 1) s1.heap.objs.size, ⟨⟨.none, he⟩, ⟨_, hit, rfl, rfl⟩, Nat.succ_ne_self _⟩, fun b hb => ?_, q⟩
  have hle : s1.heap.objs.size ≤ b := by
    rcases List.mem_cons.mp hb with z | z
    · rw [z]; exact Nat.le_succ _
    · have z : b = s1.heap.objs.size := by simpa using z
      rw [z]; exact Nat.le_refl _
  exact I1.fpOk hle (I1.hok.fresh hle)
def enumP (xs : List PV) : List PV := xs.zipIdx.map fun p => .tup [.int (p.2 : Nat), p.1]
section
variable {X : Cx} {T : List (Addr × Str)} {e : Expr} {te : TEp}
def iEnumP (te : TEp) : TIp := fun η P => te η fun x η1 => match x with
  | .tup xs => P (enumP xs) η1
  | _ => False
theorem enumP_get {xs : List PV} {i : Nat} {x : PV} (h : (enumP xs)[i]? = some x) : ∃ y, xs[i]? = some y ∧ x = .tup [.int (i : Nat), y] := by
  unfold enumP at h
  rw [List.getElem?_map, List.getElem?_zipIdx] at h
  cases q : xs[i]? with
  | none => rw [q] at h; cases h
  | some y => rw [q] at h; simp at h; exact ⟨y, rfl, h.symm⟩
theorem it_enumT {K : PySem.W.Frag} {O H} {a : Addr} {xs : List PV} {vs : List V} (t : TupAt K O H a vs) (r : Reps K O H xs vs) : Itr8 K O (Itte K a) (enumP xs) H := fun O' H' tr c _ i => by
  have h' := t.inj_car c
  have r' := r.car c
  refine ⟨fun x e => ?_, fun e => ⟨vs, h', by rw [r'.len]; simpa [enumP] using e⟩⟩
  obtain ⟨y, hy, rfl⟩ := enumP_get e
  obtain ⟨v, e1, r1⟩ := r'.get hy
  refine ⟨⟨vs, v, h', e1⟩, fun w H'' q => ?_⟩
  obtain ⟨p, x', rfl, hp, rfl, hx⟩ := q
  have := hx vs h'
  rw [e1] at this; cases this
  exact ⟨Same.new hp, rep_newT tr hp (.cons rep_int (.cons r1 .nil))⟩
theorem zi_enumT {p pos tpos : Pos} {elts : List Expr} {kk : Nat} (hg : Gl X "enumerate") (hm : X.mg "enumerate" = none) (he : PE X e (up X.K T te)) (hs : starEach [e] X.env = [(false, eval e X.env)] := by rfl) :
    PI X (.Tuple elts kk tpos) (.Call (.Name "enumerate" p) [e] [] pos) (upI X.K T (iEnumP te)) := by
  refine PI.weak (pi_enumT hg hm he hs) fun σ H Q q => ?_
  obtain ⟨F, η, P, R, h, k⟩ := q
  refine ⟨F, η, _, R, h, fun x η1 v H1 h1 e1 R1 r1 => ?_⟩
  split at h1
  · obtain ⟨a, vs, rfl, t, rr⟩ := r1.tup_
    exact ⟨a, vs, rfl, t.sq, k _ _ _ _ h1 e1 R1 (it_enumT t rr)⟩
  · cases h1
end
end Z
set_option Elab.async false
set_option linter.all false
set_option maxRecDepth 100000
namespace Z
open PySem PySem.Spec L2
open PyProof.Rows hiding St
section
variable {prog : Program} {w : World} {A : Around} {E : Value → Shared → Prop} {s : Shared}
end
end Z
set_option Elab.async false
set_option linter.all false
set_option maxRecDepth 100000
namespace Z
open PySem PySem.Spec L2
open PyProof.Rows hiding St
structure Lam1 (nm : Str) (scope : Scope) : Prop where
  kind : scope.kind = .function
  co : scope.isCoroutine = false
  gen : scope.isGenerator = false
  loc : scope.names.lookup nm = some .local
  own : ∀ y ∈ scope.names, y.2 ≠ .cell
section
variable {prog : Program} {w : World} {A : Around} {E : Value → Shared → Prop} {s : Shared}
end
section
variable {X : Cx} {T : List (Addr × Str)} {e : Expr} {te : TEp}
def keyP (i j : Int) : PV → PyData
  | .tup xs => match atI xs i, atI xs j with
    | some a, some b => .tuple [encD a, encD b]
    | _, _ => .none
  | _ => .none
end
end Z
set_option Elab.async false
set_option linter.all false
set_option maxRecDepth 100000
namespace Z
open PySem PySem.Spec L2
open PyProof.Rows hiding St
/-! ### a, b = x, y: a new list may become an own one -/
inductive Ar where
  | v (x : PV) | fo (o : Ow)
abbrev Ar.f (xs : List PV) : Ar := .fo (.l xs)
abbrev TArp := EP' → (List Ar → EP' → Prop) → Prop
def ArOk (K : PySem.W.Frag) (O : Addr → Prop) (H : Hp) : List Ar → List V → Prop
  | [], vs => vs = []
  | .v x :: ars, vs => ∃ v us, vs = v :: us ∧ Rep K O H x v ∧ ArOk K O H ars us
  | .fo o :: ars, vs => ∃ a us, vs = .ref a :: us ∧ OwAt K O H a o ∧ ArOk K O H ars us
def ArNew (F : Addr → Prop) (H : Hp) : List Ar → List V → Prop
  | .v _ :: ars, _ :: us => ArNew F H ars us
  | .fo _ :: ars, .ref a :: us => Nw H a ∧ ¬ F a ∧ ArNew (With F a) H ars us
  | [], [] => True
  | _, _ => False
def FA (F : Addr → Prop) : List Ar → List V → Addr → Prop
  | .v _ :: ars, _ :: us => FA F ars us
  | .fo _ :: ars, .ref a :: us => FA (With F a) ars us
  | _, _ => F
def upAr (K : PySem.W.Frag) (T : List (Addr × Str)) (tp : TArp) : TA := fun σ H Q => ∃ F η P, Rs K T F σ η H ∧ tp η P ∧ ∀ ars η' vs H', P ars η' → Ext σ η σ η' H H' → Rs K T (FA F ars vs) σ η' H' → ArNew F H ars vs → ArOk K (Oof (FA F ars vs) σ η') H' ars vs → Q vs H'
section
variable {K : PySem.W.Frag} {T : List (Addr × Str)} {F : Addr → Prop} {σ : St} {η : EP'} {H H' : Hp}
theorem ArOk.mono {O O' : Addr → Prop} (h : ∀ a, O' a → O a) : ∀ {ars : List Ar} {vs : List V}, ArOk K O H ars vs → ArOk K O' H ars vs
  | [], _, r => r
  | .v x :: ars, _, r => by
    obtain ⟨v, us, rfl, r1, r2⟩ := r
    exact ⟨v, us, rfl, r1.mono h, r2.mono h⟩
  | .fo o :: ars, _, r => by
    obtain ⟨a, us, rfl, r1, r2⟩ := r
    exact ⟨a, us, rfl, r1.mono h, r2.mono h⟩
theorem FA_with {a b : Addr} : ∀ {ars : List Ar} {vs : List V} {F : Addr → Prop}, FA (With F a) ars vs b ↔ FA F ars vs b ∨ b = a
  | [], [], F => Iff.rfl
  | [], _ :: _, F => Iff.rfl
  | .v _ :: ars, _ :: us, F => FA_with (ars := ars) (vs := us)
  | .v _ :: _, [], F => Iff.rfl
  | .fo _ :: ars, .ref c :: us, F => by
    show FA (With (With F a) c) ars us b ↔ FA (With F c) ars us b ∨ b = a
    rw [FA_with, FA_with, FA_with]
    constructor
    · rintro ((h | h) | h)
      · exact .inl (.inl h)
      · exact .inr h
      · exact .inl (.inr h)
    · rintro ((h | h) | h)
      · exact .inl (.inl h)
      · exact .inr h
      · exact .inl (.inr h)
  | .fo _ :: _, [], F => Iff.rfl
  | .fo _ :: _, .non :: _, F => Iff.rfl
  | .fo _ :: _, .bl _ :: _, F => Iff.rfl
  | .fo _ :: _, .int _ :: _, F => Iff.rfl
  | .fo _ :: _, .str _ :: _, F => Iff.rfl
  | .fo _ :: _, .byt _ :: _, F => Iff.rfl
  | .fo _ :: _, .flt _ :: _, F => Iff.rfl
  | .fo _ :: _, .ty _ :: _, F => Iff.rfl
theorem ArNew.mono : ∀ {ars : List Ar} {vs : List V} {F F' : Addr → Prop}, (∀ a, F' a → F a) → ArNew F H ars vs → ArNew F' H ars vs
  | [], [], _, _, _, _ => trivial
  | [], _ :: _, _, _, _, h => h.elim
  | .v _ :: ars, _ :: us, _, _, m, h => ArNew.mono (ars := ars) (vs := us) m h
  | .v _ :: _, [], _, _, _, h => h.elim
  | .fo _ :: ars, .ref c :: us, _, _, m, h => ⟨h.1, fun z => h.2.1 (m c z), ArNew.mono (ars := ars) (vs := us) (fun a z => z.elim (fun z => .inl (m a z)) .inr) h.2.2⟩
  | .fo _ :: _, [], _, _, _, h => h.elim
  | .fo _ :: _, .non :: _, _, _, _, h => h.elim
  | .fo _ :: _, .bl _ :: _, _, _, _, h => h.elim
  | .fo _ :: _, .int _ :: _, _, _, _, h => h.elim
  | .fo _ :: _, .str _ :: _, _, _, _, h => h.elim
  | .fo _ :: _, .byt _ :: _, _, _, _, h => h.elim
  | .fo _ :: _, .flt _ :: _, _, _, _, h => h.elim
  | .fo _ :: _, .ty _ :: _, _, _, _, h => h.elim
theorem FA_not {a : Addr} : ∀ {ars : List Ar} {vs : List V} {F : Addr → Prop}, ArNew (With F a) H ars vs → ¬ F a → ¬ FA F ars vs a
  | [], [], _, _, n, h => n h
  | [], _ :: _, _, h, _, _ => h.elim
  | .v _ :: ars, _ :: us, _, h, n, z => FA_not (ars := ars) (vs := us) h n z
  | .v _ :: _, [], _, h, _, _ => h.elim
  | .fo _ :: ars, .ref c :: us, F, h, n, z => by
    have z' : FA (With F c) ars us a := z
    have hc : ¬ With F a c := h.2.1
    rcases FA_with.mp z' with z' | z'
    · exact FA_not (ars := ars) (vs := us) (F := F) (h.2.2.mono fun b q => .inl q) n z'
    · exact hc (.inr z'.symm)
  | .fo _ :: _, [], _, h, _, _ => h.elim
  | .fo _ :: _, .non :: _, _, h, _, _ => h.elim
  | .fo _ :: _, .bl _ :: _, _, h, _, _ => h.elim
  | .fo _ :: _, .int _ :: _, _, h, _, _ => h.elim
  | .fo _ :: _, .str _ :: _, _, h, _, _ => h.elim
  | .fo _ :: _, .byt _ :: _, _, h, _, _ => h.elim
  | .fo _ :: _, .flt _ :: _, _, h, _, _ => h.elim
  | .fo _ :: _, .ty _ :: _, _, h, _, _ => h.elim
def storesV : List Nat → List V → St → St
  | i :: is, v :: vs, σ => storesV is vs (σ.set i (some v))
  | _, _, σ => σ
def storesP : List Nat → List Ar → EP' → EP'
  | i :: is, .v x :: ars, η => storesP is ars (η.set i (.va x))
  | i :: is, .fo o :: ars, η => storesP is ars (η.set i (.ow o))
  | _, _, η => η
def okIx (n : Nat) : List Nat → List Ar → Prop
  | i :: is, .v _ :: ars => okIx n is ars
  | i :: is, .fo _ :: ars => 0 ≠ i ∧ i < n ∧ okIx n is ars
  | [], [] => True
  | _, _ => False
theorem stores_ok {σ0 : St} {η0 : EP'} {H0 : Hp} : ∀ {is : List Nat} {ars : List Ar} {vs : List V} {F : Addr → Prop} {σ : St} {η : EP'}, okIx η.length is ars → Rs K T (FA F ars vs) σ η H → Ext σ0 η0 σ η H0 H → ArNew F H0 ars vs → ArOk K (Oof (FA F ars vs) σ η) H ars vs →
    Rs K T F (storesV is vs σ) (storesP is ars η) H ∧ Ext σ0 η0 (storesV is vs σ) (storesP is ars η) H0 H
  | [], [], vs, F, σ, η, _, R, E, N, A => by
    have A' : vs = [] := A
    subst A'
    exact ⟨R, E⟩
  | i :: is, .v x :: ars, vs, F, σ, η, hi, R, E, N, A => by
    obtain ⟨v, us, rfl, r, A⟩ := A
    have R' : Rs K T (FA F ars us) σ η H := R
    have m : ∀ a, Oof (FA F ars us) (σ.set i (some v)) (η.set i (.va x)) a → Oof (FA F ars us) σ η a := Oof_mono fun b z => own_set z
    exact stores_ok (is := is) (ars := ars) (vs := us) (F := F) (by rw [List.length_set]; exact hi) (R'.setv r) (E.trans .setv) N (A.mono m)
  | i :: is, .fo o :: ars, vs, F, σ, η, hi, R, E, N, A => by
    obtain ⟨a, us, rfl, r, A⟩ := A
    obtain ⟨h0, hl, hi⟩ := hi
    obtain ⟨n1, n2, N⟩ := N
    have R0 : Rs K T (FA (With F a) ars us) σ η H := R
    have nf : ¬ FA F ars us a := FA_not N n2
    have R1 : Rs K T (With (FA F ars us) a) σ η H := R0.shrink fun b z => FA_with.mpr z
    have m0 : ∀ b, Oof (With (FA F ars us) a) σ η b → Oof (FA (With F a) ars us) σ η b := fun b z => z.elim (fun z => .inl (FA_with.mpr z)) .inr
    have R2 := R1.seto (i := i) (o := o) nf (r.mono m0) hl
    have m1 : ∀ b, Oof (FA F ars us) (σ.set i (some (.ref a))) (η.set i (.ow o)) b → Oof (FA (With F a) ars us) σ η b := by
      rintro b (z | ⟨j, p, z1, z2⟩)
      · exact .inl (FA_with.mpr (.inl z))
      · by_cases hj : j = i
        · subst hj
          cases at_set z1
          exact .inl (FA_with.mpr (.inr rfl))
        · rw [ne_set hj] at z1 z2
          exact .inr ⟨j, p, z1, z2⟩
    exact stores_ok (is := is) (ars := ars) (vs := us) (F := F) (by rw [List.length_set]; exact hi) R2 (E.seto n1 h0) (N.mono fun b z => .inl z) (A.mono m1)
  | [], .v _ :: _, _, _, _, _, h, _, _, _, _ => h.elim
  | [], .fo _ :: _, _, _, _, _, h, _, _, _, _ => h.elim
  | _ :: _, [], _, _, _, _, h, _, _, _, _ => h.elim
end
section
variable {X : Cx} {T : List (Addr × Str)} {e a b c : Expr} {es : List Expr} {te : TEp} {tf : TFp} {tr : TArp} {pos : Pos}
def tNilAr : TArp := fun η P => P [] η
def tConsV (te : TEp) (t : TArp) : TArp := fun η P => te η fun x η1 => t η1 fun ars η2 => P (.v x :: ars) η2
def tConsF (tf : TFp) (t : TArp) : TArp := fun η P => tf η fun xs η1 => t η1 fun ars η2 => P (.f xs :: ars) η2
theorem zr_nil : PA X [] (upAr X.K T tNilAr) := by
  refine PA.weak pa_nil fun σ H Q q => ?_
  obtain ⟨F, η, P, R, h, k⟩ := q
  exact k [] η [] H h .refl R trivial rfl
theorem new_back {F : Addr → Prop} {σ : St} {η η1 : EP'} {H H1 : Hp} (e : Ext σ η σ η1 H H1) : ∀ {ars : List Ar} {vs : List V} {F : Addr → Prop}, ArNew F H1 ars vs → ArNew F H ars vs
  | [], [], _, _ => trivial
  | [], _ :: _, _, h => h.elim
  | .v _ :: ars, _ :: us, _, h => new_back e (F := F) (ars := ars) (vs := us) h
  | .v _ :: _, [], _, h => h.elim
  | .fo _ :: ars, .ref c :: us, _, h => ⟨e.nw h.1, h.2.1, new_back e (F := F) (ars := ars) (vs := us) h.2.2⟩
  | .fo _ :: _, [], _, h => h.elim
  | .fo _ :: _, .non :: _, _, h => h.elim
  | .fo _ :: _, .bl _ :: _, _, h => h.elim
  | .fo _ :: _, .int _ :: _, _, h => h.elim
  | .fo _ :: _, .str _ :: _, _, h => h.elim
  | .fo _ :: _, .byt _ :: _, _, h => h.elim
  | .fo _ :: _, .flt _ :: _, _, h => h.elim
  | .fo _ :: _, .ty _ :: _, _, h => h.elim
theorem car_FA {F G : Addr → Prop} {σ : St} {η η1 : EP'} {H H1 : Hp} (e : Ext σ η σ η1 H H1) (hn : ∀ b, G b → F b ∨ Nw H b) : Car (Oof F σ η) (Oof G σ η1) H H1 := fun a o n h t => by
  obtain ⟨k, n'⟩ := e.car (F := F) a o n h t
  refine ⟨k, fun z => ?_⟩
  rcases z with z | z
  · rcases hn a z with z | z
    · exact n (.inl z)
    · exact z.no h t
  · exact n' (.inr z)
theorem FA_new {H : Hp} : ∀ {ars : List Ar} {vs : List V} {F : Addr → Prop} {b : Addr}, ArNew F H ars vs → FA F ars vs b → F b ∨ Nw H b
  | [], [], _, _, _, h => .inl h
  | [], _ :: _, _, _, h, _ => h.elim
  | .v _ :: ars, _ :: us, _, _, h, z => FA_new (ars := ars) (vs := us) h z
  | .v _ :: _, [], _, _, h, _ => h.elim
  | .fo _ :: ars, .ref c :: us, F, b, h, z => by
    rcases FA_new (ars := ars) (vs := us) (F := With F c) h.2.2 z with (q | q) | q
    · exact .inl q
    · rw [q]; exact .inr h.1
    · exact .inr q
  | .fo _ :: _, [], _, _, h, _ => h.elim
  | .fo _ :: _, .non :: _, _, _, h, _ => h.elim
  | .fo _ :: _, .bl _ :: _, _, _, h, _ => h.elim
  | .fo _ :: _, .int _ :: _, _, _, h, _ => h.elim
  | .fo _ :: _, .str _ :: _, _, _, h, _ => h.elim
  | .fo _ :: _, .byt _ :: _, _, _, h, _ => h.elim
  | .fo _ :: _, .flt _ :: _, _, _, h, _ => h.elim
  | .fo _ :: _, .ty _ :: _, _, _, h, _ => h.elim
theorem zr_v (he : PE X e (up X.K T te)) (hr : PA X es (upAr X.K T tr)) (hs : starEach (e :: es) X.env = (false, eval e X.env) :: starEach es X.env := by rfl) : PA X (e :: es) (upAr X.K T (tConsV te tr)) := by
  refine PA.weak (pa_cons he hr hs) fun σ H Q q => ?_
  obtain ⟨F, η, P, R, h, k⟩ := q
  refine ⟨F, η, _, R, h, fun x η1 v H1 h1 e1 R1 r1 => ⟨F, η1, _, R1, h1, fun ars η2 vs H2 h2 e2 R2 N2 A2 => ?_⟩⟩
  exact k (.v x :: ars) η2 (v :: vs) H2 h2 (e1.trans e2) R2 (show ArNew F H ars vs from new_back (F := F) e1 N2) ⟨v, vs, rfl, r1.car (car_FA e2 fun b z => FA_new N2 z), A2⟩
theorem zr_f (he : PE X e (upF X.K T tf)) (hr : PA X es (upAr X.K T tr)) (hs : starEach (e :: es) X.env = (false, eval e X.env) :: starEach es X.env := by rfl) : PA X (e :: es) (upAr X.K T (tConsF tf tr)) := by
  refine PA.weak (pa_cons he hr hs) fun σ H Q q => ?_
  obtain ⟨F, η, P, R, h, k⟩ := q
  refine ⟨F, η, _, R, h, fun xs η1 a ws H1 h1 e1 R1 hn nf hv r1 => ⟨With F a, η1, _, R1, h1, fun ars η2 vs H2 h2 e2 R2 N2 A2 => ?_⟩⟩
  have na : ¬ IsOwn σ η1 a := fun z => by
    obtain ⟨j, p, z1, z2⟩ := z
    obtain ⟨b, q1, q2, q3⟩ := R1.ow j p z2
    rw [z1] at q1; cases q1
    exact q3 (.inr rfl)
  exact k (.f xs :: ars) η2 (.ref a :: vs) H2 h2 (e1.trans e2) R2 ⟨hn, nf, new_back (F := F) e1 N2⟩ ⟨a, vs, rfl, ⟨ws, e2.keep a _ hv na nofun, r1.car (car_FA e2 fun b z => FA_new N2 z)⟩, A2⟩
def tParP (is : List Nat) (tr : TArp) : TSp := fun D η => tr η fun ars η1 => ars.length = is.length ∧ okIx η1.length is ars ∧ D.nx (storesP is ars η1)
theorem ArOk.len {K : PySem.W.Frag} {O H} : ∀ {ars : List Ar} {vs : List V}, ArOk K O H ars vs → vs.length = ars.length
  | [], _, r => by
    have r' : _ = [] := r
    rw [r']; rfl
  | .v x :: ars, _, r => by
    obtain ⟨v, us, rfl, r1, r2⟩ := r
    simp [r2.len]
  | .fo o :: ars, _, r => by
    obtain ⟨a, us, rfl, r1, r2⟩ := r
    simp [r2.len]
theorem par_up {K : PySem.W.Frag} {is : List Nat} {D : Ends} {σ : St} {H : Hp} (q : upS K T (tParP is tr) D σ H) : upAr K T tr σ H (fun vs H1 => vs.length = is.length ∧ D.nx (storesV is vs σ) H1) := by
  obtain ⟨F, η, D', R, h, k1, k2, k3, k4⟩ := q
  refine ⟨F, η, _, R, h, fun ars η1 vs H1 h1 e1 R1 N A => ⟨by rw [A.len]; exact h1.1, ?_⟩⟩
  obtain ⟨R2, E2⟩ := stores_ok (is := is) h1.2.1 R1 e1 N A
  exact k1 _ _ _ h1.2.2 E2 R2
theorem z_par2 {i j : Nat} {st : Stmt} {K0 : PySem.W.Frag} (hK : X.K = K0) (pf : PS X st (tPar i j (upAr K0 T tr))) : PS X st (upS K0 T (tParP [i, j] tr)) := by
  refine PS.weak pf fun D σ H q => ?_
  obtain ⟨F, η, P, R, h, k⟩ := par_up q
  refine ⟨F, η, P, R, h, fun ars η' vs H' h1 e1 R1 N A => ?_⟩
  obtain ⟨hl, hd⟩ := k ars η' vs H' h1 e1 R1 N A
  match vs, hl, hd with
  | [v, w], _, hd => exact ⟨v, w, rfl, hd⟩
theorem z_par3 {i j l : Nat} {st : Stmt} {K0 : PySem.W.Frag} (hK : X.K = K0) (pf : PS X st (tPar3 i j l (upAr K0 T tr))) : PS X st (upS K0 T (tParP [i, j, l] tr)) := by
  refine PS.weak pf fun D σ H q => ?_
  obtain ⟨F, η, P, R, h, k⟩ := par_up q
  refine ⟨F, η, P, R, h, fun ars η' vs H' h1 e1 R1 N A => ?_⟩
  obtain ⟨hl, hd⟩ := k ars η' vs H' h1 e1 R1 N A
  match vs, hl, hd with
  | [u, v, w], _, hd => exact ⟨u, v, w, rfl, hd⟩
end
end Z
set_option Elab.async false
set_option linter.all false
set_option maxRecDepth 100000
namespace Z
open PySem PySem.Spec L2
open PyProof.Rows hiding St
section
variable {X : Cx} {T : List (Addr × Str)} {a b e o : Expr} {es : List Expr} {te ta tb : TEp} {t : TAp} {tf : TFp} {pos p apos : Pos} {x : Str}
theorem z_gi {i : Int} (hg : Gl X x) (h : ∃ u, X.mg x = some u ∧ RelV (.int i) u) (hd : (x == ("__debug__" : Str)) = false := by decide) : PE X (.Name x pos) (up X.K T (tConP (.int i))) := by
  obtain ⟨u, hm, r⟩ := h
  exact z_con (pe_glob hg hm r hd) fun _ _ => by unfold Rep; rfl
theorem z_gs {i : Str} (hg : Gl X x) (h : ∃ u, X.mg x = some u ∧ RelV (.str i) u) (hd : (x == ("__debug__" : Str)) = false := by decide) : PE X (.Name x pos) (up X.K T (tConP (.str i))) := by
  obtain ⟨u, hm, r⟩ := h
  exact z_con (pe_glob hg hm r hd) fun _ _ => by unfold Rep; rfl
theorem z_ty {id : String} (hg : Gl X x) (hm : X.mg x = none) (hv : bootBuiltins x = some (.type id)) (hn : x ≠ "__name__" := by decide) (hd : (x == ("__debug__" : Str)) = false := by decide) : PE X (.Name x pos) (up X.K T (tConP (.raw (.ty id)))) := z_con (pe_bltn (v := .ty id) hg hm hv rfl hn hd) fun _ _ => by unfold Rep; rfl
def tNegP (te : TEp) : TEp := fun η P => te η fun x η1 => match x with | .int i => P (.int (-i)) η1 | _ => False
theorem z_neg (h : PE X e (up X.K T te)) : PE X (.UnaryOp .USub e pos) (up X.K T (tNegP te)) := by
  refine PE.weak (pe_un un_neg h) fun σ H Q q => ?_
  obtain ⟨F, η, P, R, h, k⟩ := q
  refine ⟨F, η, _, R, h, fun x η1 v H1 h1 e1 R1 r1 => ?_⟩
  split at h1
  · exact ⟨_, r1.int_, k _ _ _ _ h1 e1 R1 rep_int⟩
  · cases h1
theorem zgs_cons1 {t : TGp} {u : TGsp} (h1 : PG X e (upG X.K T t)) (h2 : PGs X es (upGs X.K T u)) (hs : (assignEach (e :: es) X.env).map (·.2) = assign e X.env :: (assignEach es X.env).map (·.2) := by rfl) : PGs X (e :: es) (upGs X.K T (gConsP t u)) := zgs_cons h1 h2 (pgs_cons h1 h2 hs)
theorem zt_chain {c : Expr} {tc : TEp} {op op' : CmpOp} {r r' : R2p} (ho : OpR X (compareOp op) (r2 X.K r)) (ho' : OpR X (compareOp op') (r2 X.K r')) (ha : PE X a (up X.K T ta)) (hb : PE X b (up X.K T tb)) (hc : PE X c (up X.K T tc))
    (hm : lastMarks [op, op'] [b, c] = false := by with_unfolding_all rfl) : PT X (.Compare a [op, op'] [b, c] pos) (upB X.K T (tBlP (tChainP r r' ta tb tc))) := by
  refine PT.weak (pt_chain ho ho' ha hb hc hm) fun σ H Q q => ?_
  obtain ⟨F, η, P, R, h, k⟩ := q
  refine ⟨F, η, _, R, h, fun x η1 v H1 h1 e1 R1 r1' => ⟨F, η1, _, R1, h1, fun y η2 w H2 h2 e2 R2' rw' => ?_⟩⟩
  refine ⟨Oof F σ η2, x, y, _, R2'.trO, r1'.car e2.car, rw', h2, fun z u H3 pz s rz => ?_⟩
  obtain ⟨kk, rfl, pz⟩ := pz
  unfold Rep at rz
  refine ⟨kk, rz, ?_⟩
  cases kk with
  | false => exact ⟨_, rfl, k _ η2 H3 pz ((e1.trans e2).trans (.same s)) (R2'.same s)⟩
  | true =>
    simp only [if_true] at pz ⊢
    refine ⟨F, η2, _, R2'.same s, pz, fun z' η3 u' H4 h4 e4 R4 r4 => ?_⟩
    refine ⟨Oof F σ η3, y, z', _, R4.trO, (rw'.car (Car.same s)).car e4.car, r4, h4, fun z2 u2 H5 p5 s5 r5 => ?_⟩
    split at p5
    · unfold Rep at r5
      exact ⟨_, r5, k _ η3 H5 p5 ((((e1.trans e2).trans (.same s)).trans e4).trans (.same s5)) (R4.same s5)⟩
    · cases p5
theorem zi_enum1 {p pos tpos : Pos} {elts : List Expr} {kk : Nat} (hg : Gl X "enumerate") (hm : X.mg "enumerate" = none) (he : PE X e (up X.K T te)) (hs : starEach [e] X.env = [(false, eval e X.env)] := by rfl) :
    PI X (.Tuple elts kk tpos) (.Call (.Name "enumerate" p) [e] [] pos) (upI X.K T (iEnumP te)) := zi_enumT hg hm he hs
def rMulA : R2p := fun x y P => rMul x y P ∨ rMulS x y P
theorem zo_mulA : OpR X (binaryOp .Mult) (r2 X.K rMulA) := by
  intro pins s σ H x y v u Q I rx ry q
  obtain ⟨O, px, py, P, tr, h1, h2, h, k⟩ := q
  rcases h with h | h
  · exact zo_mul pins s σ H x y v u Q I rx ry ⟨O, px, py, P, tr, h1, h2, h, k⟩
  · exact zo_mulS pins s σ H x y v u Q I rx ry ⟨O, px, py, P, tr, h1, h2, h, k⟩
end
end Z
set_option Elab.async false
set_option linter.all false
set_option maxRecDepth 100000
namespace Z
open PySem PySem.Spec L2
open PyProof.Rows hiding St
structure FunX (K : PySem.W.Frag) (x qual : Str) (st : Stmt) (dvs : List V) (c f : Addr) (fd : FuncData) : Prop where
  ex : ∃ (oc : Value) (od : Option Addr) (dV kV doc pm : Value) (an : Option Addr) (ct : Value) (osl : Array (Option Value)),
    fd = PySem.W.fnOf x qual (defArgs st) (defBody st) (defScope st) dV kV doc pm an (.ref c) ct ∧ K.lookup f = some ⟨oc, od, .func fd, osl⟩ ∧ PySem.W.codeIn K (.ref c) qual = true ∧ DflV K dV dvs
  kp : PySem.W.keepIn K (.ref f) = true
section
variable {P : Program} {w : World} {K : PySem.W.Frag} {mg : Str → Option Value} {base : Heap} {T : List (Addr × Str)} {x qual : Str} {st : Stmt} {f c : Addr} {fd : FuncData} {dvs : List V} {ps : List Str}
theorem FunX.d (F : FunX K x qual st dvs c f fd) : FunD K x qual (defArgs st) (defBody st) (defScope st) dvs [] f fd := by
  obtain ⟨oc, od, dV, kV, doc, pm, an, ct, osl, h1, h2, h3, h4⟩ := F.ex
  exact ⟨⟨oc, od, dV, kV, doc, pm, an, .ref c, ct, osl, h1, h2, h3, h4, .inl rfl⟩, F.kp⟩
theorem FunX.b0 (F : FunX K x qual st dvs c f fd) (hd : dvs ≠ [])
    (h : ∀ (T : Addr) (kV doc pm : Value) (an : Option Addr) (cdv ct : Value) (us its : List Value), us.length = ps.length → its.length = dvs.length →
      ∃ k, bindArgs (PySem.W.fnOf x qual (defArgs st) (defBody st) (defScope st) (.ref T) kV doc pm an cdv ct) ⟨us, []⟩ = seqItems? (.ref T) >>= k ∧ k (some its.toArray) = pure (ps.zip (us ++ its.drop dvs.length))) : Binds K fd ps [] := by
  obtain ⟨ds, h1, h2⟩ := F.d.binds1 (ps := ps) ps.length dvs.length hd (by omega) h
  rw [List.drop_length] at h1
  cases ds with
  | nil => exact h2
  | cons => exact (nomatch h1)
end
end Z
set_option Elab.async false
set_option linter.all false
set_option maxRecDepth 100000
namespace Z
open PySem PySem.Spec L2 ClX
open PyProof.Rows hiding St
/-! ### static methods -/
structure SMet (K : PySem.W.Frag) (C : Addr) (mc : Value) (m : Str) (p g : Addr) : Prop where
  at_ : PySem.W.findCls K (.ref C) mc m = some (.get (.builtin "staticmethod.__get__") (.ref p) .none (.ref C))
  rc : ∃ rest, PySem.W.recIn K p "staticmethod" = some (.ref g :: rest)
  kp : PySem.W.keepIn K (.ref g) = true
structure SInst (K : PySem.W.Frag) (C : Addr) (m : Str) (p g : Addr) : Prop where
  pg : PySem.W.plainGet K C Str.empty = true
  ic : PySem.W.isClsIn K C = true
  at_ : PySem.W.findIn K (.ref C) m = some (some (.ref p))
  ty : PySem.W.typeIn K (.ref p) = some (.type "staticmethod")
  get : PySem.W.specialIn K (.ref p) "__get__" = some (some (.builtin "staticmethod.__get__"))
  tk : PySem.W.takesIn K (.ref p) = some false
  cp : PySem.W.copiedNames.contains m = false
  rc : ∃ rest, PySem.W.recIn K p "staticmethod" = some (.ref g :: rest)
  kp : PySem.W.keepIn K (.ref g) = true
section
variable {X : Cx} {pins : List (Addr × Obj)} {σ : L2.St} {H : Hp} {s : Shared} {a C p g : Addr} {mc : Value} {m : Str} {A : Around} {E : Value → Shared → Prop}
end
section
variable {X : Cx} {CX : CXT} {k : Nat} {C p g : Addr} {mc : Value} {sp : Sp} {E : XK} {o e : Expr} {es : List Expr} {m : Str} {pos apos : Pos} {ta : TE} {t tk : TA} {pl : Sem Bool} {fd : FuncData} {ps ks : List Str} {kws : List Keyword}
end
/-! over plain values -/
section
variable {X : Cx} {T : List (Addr × Str)} {k : Nat} {C p g : Addr} {mc : Value} {sp : SpP} {o e : Expr} {es : List Expr} {m : Str} {pos apos kpos : Pos} {te ta : TEp} {t : TAp} {fd : FuncData} {ps ks : List Str} {kws : List Keyword} {nm : Option Str}
theorem PK.weak {kws : List Keyword} {t t' : TA} (h : PK X kws t) (w : ∀ σ H Q, t' σ H Q → t σ H Q) : PK X kws t' := ⟨fun pos pins s σ H Q I q => h.run pos pins s σ H Q I (w _ _ _ q)⟩
end
end Z
set_option Elab.async false
set_option linter.all false
set_option maxRecDepth 100000
namespace Z
open PySem PySem.Spec L2 ClX
open PyProof.Rows hiding St
section
variable {X : Cx} {T : List (Addr × Str)} {C : Addr} {mc : Value} {e : Expr} {f : Str} {pos : Pos} {ta : TEp} {x : PV} {v : V} {u : Value}
def tDic0P : TEp := fun η P => P .dic0 η
theorem z_dic0 : PE X (.Dict [] [] pos) (up X.K T tDic0P) := by
  refine PE.weak pe_dnewK fun σ H Q q => ?_
  obtain ⟨F, η, P, R, h, kk⟩ := q
  intro p hp
  refine kk _ _ _ _ h (.same (Same.new hp)) (R.same (Same.new hp)) ?_
  unfold Rep
  exact ⟨p, [], rfl, R.trO.fresh hp, upd_same, RepD.nil⟩
end
end Z
set_option Elab.async false
set_option linter.all false
set_option maxRecDepth 100000
namespace Z
open PySem PySem.Spec L2
open PyProof.Rows hiding St
/-! ### the law's end where nothing is being shown -/
def trk0 (ts : List Addr) (a : Addr) (o : Obj) (u : HO) : Hp := fun b => if b = a then some (.frz o u) else if b ∈ ts then some (.tbl #[]) else none
section
variable {ts : List Addr} {a b : Addr} {o : Obj} {u : HO}
theorem trk0_a : trk0 ts a o u a = some (.frz o u) := if_pos rfl
theorem trk0_t (n : b ≠ a) (h : b ∈ ts) : trk0 ts a o u b = some (.tbl #[]) := (if_neg n).trans (if_pos h)
theorem trk0_n (n : b ≠ a) (h : b ∉ ts) : trk0 ts a o u b = none := (if_neg n).trans (if_neg h)
end
def NoList (K : PySem.W.Frag) : Bool := K.all fun p => match p.2.cls with
  | .type n => !(n == "list")
  | _ => true
theorem noList_at {K : PySem.W.Frag} (h : NoList K = true) {b : Addr} {o : Obj} (e : K.lookup b = some o) : o.cls ≠ .type "list" := by
  intro z
  have hm : ∃ p ∈ K, p.2 = o := by
    clear h
    induction K with
    | nil => cases e
    | cons p r ih =>
      rw [List.lookup_cons] at e
      cases q : (b == p.1) with
      | true =>
        rw [q] at e
        exact ⟨p, List.mem_cons_self, Option.some.inj e⟩
      | false =>
        rw [q] at e
        obtain ⟨p', h1, h2⟩ := ih e
        exact ⟨p', List.mem_cons_of_mem _ h1, h2⟩
  obtain ⟨p, h1, h2⟩ := hm
  have h3 := List.all_eq_true.mp h p h1
  rw [h2, z] at h3
  exact absurd h3 (by decide)
structure AtEnd (K : PySem.W.Frag) (mg mb : Str → Option Value) (cs : List (Addr × Addr)) (h : Heap) : Prop where
  X : K.In h
  g : h.Ns mainGlobals mg
  b : h.Ns builtinsNs mb
  bb : ∀ x : Str, x ≠ "__name__" → mb x = bootBuiltins x
  nolim : h.NoLimit
  code : ∀ p ∈ cs, PySem.W.CodeHd h p.1 p.2
  tab : ∀ p ∈ cs, h.get? p.2 = some (PySem.W.tabObj #[])
  bm : ∃ bm ob, mg "__builtins__" = some (.ref bm) ∧ bm ≠ builtinsNs ∧ h.get? bm = some ob ∧ ob.cls = .type "module" ∧ ob.dict = some builtinsNs ∧ ob.data = .plain
theorem law_endG {P : Program} {w : World} {K : PySem.W.Frag} {mg mb : Str → Option Value} {k : Nat} {fa a : Addr} {cs : List (Addr × Addr)} {T : List (Addr × Str)} {fd : FuncData} {x : Str} {sp : SpP} {s1 : Shared} {vs : List Value} {ns : List Int}
    (t : AtEnd K mg mb cs s1.heap) (nl : NoList K = true) (nK : ∀ p ∈ cs, K.lookup p.2 = none) (hTT : ∀ p ∈ T, p.1 ∈ cs.map (·.2)) (gn : s1.gens = #[])
    (ha : s1.heap.get? a = some { cls := .type "list", data := .seq vs.toArray }) (hi : IntsAre vs ns) (hl : ns.length ≤ sizeLine) (hr : Room k callerA)
    (F : ∀ base : Heap, K.In base → base.Ns mainGlobals mg → (∀ p ∈ cs, LamX.TabB base mg p.1 p.2) → FnG P w K mg base k fa fd [x] (upSp K T sp)) (hb : ∀ (s : Shared) (u : Value), BindsTo s fd ⟨[u], []⟩ [(x, u)])
    (hsp : sp [.scr ns] fun z => z = .bl true) :
    codeAny (model P w) callerA (.call (.ref fa) ⟨[.ref a], []⟩) (fun r s' => r = .ok (.ret (.bool true)) ∧ OldK s1.heap s'.heap ∧ s'.os = s1.os ∧ AllBare s'.gens) s1 := by
  let ts := cs.map (·.2)
  let ob : Obj := { cls := .type "list", data := .seq vs.toArray }
  let H : Hp := trk0 ts a ob (.lst (ns.map V.int))
  have isT : ∀ b ∈ ts, s1.heap.get? b = some (PySem.W.tabObj #[]) := fun b hb => by
    obtain ⟨p, hp, e⟩ := List.mem_map.mp hb
    rw [← e]; exact t.tab p hp
  have aT : a ∉ ts := fun z => by
    have q := (isT a z).symm.trans ha
    cases q
  have tA : ∀ b ∈ ts, b ≠ a := fun b hb z => aT (z ▸ hb)
  have kA : K.lookup a = none := by
    cases q : K.lookup a with
    | none => rfl
    | some o =>
      have e := (t.X a o q).symm.trans ha
      cases e
      exact absurd rfl (noList_at nl q)
  have kT : ∀ b ∈ ts, K.lookup b = none := fun b hb => by
    obtain ⟨p, hp, e⟩ := List.mem_map.mp hb
    rw [← e]; exact nK p hp
  -- an object that is neither the script nor a table
  have out : ∀ {b : Addr} {o : Obj}, s1.heap.get? b = some o → (∀ vs n, o.data ≠ .seq vs n) → o.data ≠ .fields #[] → H b = none := fun {b o} e h1 h2 => by
    refine trk0_n (fun z => ?_) fun z => ?_
    · rw [z, ha] at e; cases e; exact h1 _ _ rfl
    · rw [isT b z] at e; cases e; exact h2 rfl
  have toBase : ∀ {b : Addr} {o : Obj}, s1.heap.get? b = some o → (∀ vs n, o.data ≠ .seq vs n) → o.data ≠ .fields #[] → (hidT s1.heap H).get? b = some o := fun e h1 h2 => hidT_get e (out e h1 h2)
  have nsB : ∀ {b : Addr} {m : Str → Option Value}, s1.heap.Ns b m → (hidT s1.heap H).Ns b m := fun {b m} ⟨o, es, ep, e, d, r⟩ => ⟨o, es, ep, toBase e (fun vs n z => by rw [d] at z; cases z) (fun z => by rw [d] at z; cases z), d, r⟩
  have KB : K.In (hidT s1.heap H) := fun b o e => hidT_get (t.X b o e) (by
    refine trk0_n (fun z => ?_) fun z => ?_
    · rw [z, kA] at e; cases e
    · rw [kT b z] at e; cases e)
  have M : L2.Mod K mg (hidT s1.heap H) := ⟨KB, nsB t.g, ⟨mb, nsB t.b, t.bb⟩, let ⟨mc, h1, h2⟩ := t.nolim; ⟨mc, nsB h1, h2⟩⟩
  have TB : ∀ p ∈ cs, LamX.TabB (hidT s1.heap H) mg p.1 p.2 := fun p hp => by
    have e2 := t.tab p hp
    refine ⟨?_, ?_, fun z => ?_⟩
    · obtain ⟨o, us, file, tf, flags, tg, inF, text, tt, e1, r1, r2, r3, r⟩ := t.code p hp
      exact ⟨o, us, file, tf, flags, tg, inF, text, tt, toBase e1 (fun vs n z => by rw [r2] at z; cases z) (fun z => by rw [r2] at z; cases z; simp at r3), r1, r2, r3, r⟩
    · obtain ⟨m, om, b1, b2, b3, b4, b5, b6⟩ := t.bm
      refine ⟨m, om, b1, b2, fun q => ?_, fun q => ?_, toBase b3 (fun vs n z => by rw [b6] at z; cases z) (fun z => by rw [b6] at z; cases z), b4, b5, b6⟩
      · obtain ⟨o, es, ep, e, hd, _⟩ := t.g
        rw [q, e] at b3; cases b3; rw [hd] at b6; cases b6
      · rw [q, e2] at b3; cases b3; cases b6
    · obtain ⟨o, es, ep, e, hd, _⟩ := t.g
      rw [z, e2] at e; cases e; cases hd
  have rv := vals_ints hi
  have hok : HOk P w H s1.heap := fun b u e => by
    by_cases hba : b = a
    · rw [hba] at e ⊢
      obtain rfl : _ = u := Option.some.inj (trk0_a.symm.trans e)
      exact ⟨ha, by rw [List.length_map]; exact hl, vs, _, rv, ha⟩
    · by_cases hbt : b ∈ ts
      · obtain rfl : _ = u := Option.some.inj ((trk0_t hba hbt).symm.trans e)
        exact isT b hbt
      · have z := (trk0_n (o := ob) (u := .lst (ns.map V.int)) hba hbt).symm.trans e
        cases z
  have e0 : Env0 P w K mg (hidT s1.heap H) callerA [] s1 H := ⟨rfl, M, fun b o e => of_hidT e, Nat.le_of_eq (hidT_size _ _), trivial, (fun b z => absurd (show b ∈ ([] : List Addr) from z) (by simp)), hok, .of_eq gn⟩
  have hT0 : LamX.Tabs T H := fun p hp => ⟨#[], trk0_t (tA _ (hTT p hp)) (hTT p hp), trivial, fun pos cv z => by cases z⟩
  have promise : upSp K T sp [.ref a] H (fun v _ => v = .bl true) fun _ _ _ => False := by
    refine ⟨fun _ => False, [.scr ns], fun z => z = .bl true, fun b z => z.elim, hT0, ?_, hsp, fun z v H' e _ _ r => ?_⟩
    · unfold Reps
      refine ⟨.ref a, [], rfl, ?_, ?_⟩
      · unfold Rep
        exact ⟨a, ob, rfl, id, trk0_a⟩
      · unfold Reps
        rfl
    · subst e
      exact r.bl_
  refine codeAny_mono ((F _ KB (nsB t.g) TB).run callerA [] s1 H ⟨[.ref a], []⟩ [.ref a] [.ref a] _ _ rfl hr e0 (hb s1 (.ref a)) (.cons rfl .nil) promise) fun r s' h => ?_
  match r, h with
  | .error e, h => exact h.elim
  | .ok (.ret u), ⟨v, H', os, bare, un, hok', r', q⟩ =>
    have q' : v = .bl true := q
    subst q'
    obtain rfl : u = Value.bool true := r'
    have same : ∀ b o, b ∉ ts → s1.heap.get? b = some o → s'.heap.get? b = some o := fun b o nb e => by
      by_cases hba : b = a
      · have z2 := un.frzs b ob (.lst (ns.map V.int)) (by rw [hba]; exact trk0_a)
        rw [hba] at e z2 ⊢
        rw [ha] at e; cases e
        exact (hok' a _ z2).1
      · exact un.keep b o e (trk0_n hba nb) (by intro z; exact absurd (show b ∈ ([] : List Addr) from z) (by simp)) (by simp)
    have more : ∀ b ∈ ts, ∃ m : Array Value, s'.heap.get? b = some (PySem.W.tabObj m) := fun b hb => by
      obtain ⟨m, z⟩ := un.tbls b #[] (trk0_t (tA b hb) hb)
      exact ⟨_, hok' b _ z⟩
    refine ⟨rfl, ⟨fun b o e => ?_, fun b o e => ?_⟩, os, bare⟩
    · by_cases hb : b ∈ ts
      · obtain ⟨m, hm⟩ := more b hb
        rw [isT b hb] at e; cases e
        obtain ⟨p, hp, ep⟩ := List.mem_map.mp hb
        refine .inr (.inl ⟨?_, rfl, #[], m, rfl, by rw [Array.empty_append]; exact hm⟩)
        rw [← ep]
        exact ((t.code p hp).tab (t.tab p hp)).isCodeTable
      · exact .inl (same b o hb e)
    · by_cases hb : b ∈ ts
      · obtain ⟨m, hm⟩ := more b hb
        exact ⟨_, hm⟩
      · exact ⟨o, same b o hb e⟩
def LawG (l : PySem.W.OpenLaw) (w : World) (K : PySem.W.Frag) (k n : Nat) (x : Str) (mg : Str → Option Value) (fa : Addr) (h : Heap) : Prop :=
  ∃ (fd : FuncData) (cs : List (Addr × Addr)) (T : List (Addr × Str)) (sp : SpP), (∀ p ∈ cs, PySem.W.CodeHd h p.1 p.2) ∧ (∀ p ∈ cs, h.get? p.2 = some (PySem.W.tabObj #[])) ∧ (∀ p ∈ cs, K.lookup p.2 = none) ∧ NoList K = true ∧ (∀ p ∈ T, p.1 ∈ cs.map (·.2)) ∧
    (∀ (s : Shared) (u : Value), BindsTo s fd ⟨[u], []⟩ [(x, u)]) ∧ (∀ ns : List Int, ns.length ≤ n → (∀ z ∈ ns, Builtin.Int.intBits z ≤ 1048576) → sp [.scr ns] fun z => z = .bl true) ∧
    ∀ base : Heap, K.In base → base.Ns mainGlobals mg → (∀ p ∈ cs, LamX.TabB base mg p.1 p.2) → FnG l.prog w K mg base k fa fd [x] (upSp K T sp)
theorem walkG {l : PySem.W.OpenLaw} {n k : Nat} {q : Program} {loose : List Str} {XP : (Str → Option Value) → Heap → Prop} {YP : World → Heap → Prop} {d : DefRec} {K : Params → PySem.W.Frag} {x : Str}
    (hn : l.most = some n) (hn2 : n ≤ sizeLine) (hdf : d.params.defaults = []) (hr : Room k callerA) (hY : ∀ (w : World) (h : Heap), YP w h → (K w.params).In h)
    (F : ∀ (w : World) (mg : Str → Option Value) (fa : Addr) (h : Heap), YP w h → (K w.params).In h → h.Ns mainGlobals mg → mg d.name = some (.ref fa) → LawG l w (K w.params) k n x mg fa h) :
    PySem.W.WalkO q loose XP YP l.row.toRowW d [] (fun f vs => PySem.call f vs) := by
  refine Att.attach_callB hn hdf fun w s0 s1 mg mb fa o pm cd doc a vs ns G Y ho hd hcd hmg hobj hints hlen hbits hg => ?_
  obtain ⟨fd, cs, T, sp, hC, hT, nT, nl, hTT, hb, hsp, hF⟩ := F w mg fa _ Y (hY w _ Y) G.T.g hmg
  exact law_endG ⟨hY w _ Y, G.T.g, G.T.b, G.T.builtins, G.T.nolimit, hC, hT, G.T.bmain⟩ nl nT hTT hg hobj hints (Nat.le_trans hlen hn2) hr hF hb (hsp ns hlen hbits)
end Z
set_option Elab.async false
set_option linter.all false
set_option maxRecDepth 100000
namespace Z
open PySem PySem.Spec L2 PySem.Calls
open PyProof.Rows hiding St
/-! ### a class's own ==, !=, len, bool, str -/
structure OwnC (K : PySem.W.Frag) (C fE fL fS : Addr) : Prop where
  t : ClsT K C
  eq : PySem.W.findIn K (.ref C) "__eq__" = some (some (.ref fE))
  eqf : PySem.W.isFn K (.ref fE) = true
  ne : PySem.W.findIn K (.ref C) "__ne__" = some (some (.builtin "object.__ne__"))
  len : PySem.W.findIn K (.ref C) "__len__" = some (some (.ref fL))
  lenf : PySem.W.isFn K (.ref fL) = true
  bool : PySem.W.findIn K (.ref C) "__bool__" = some none
  str : PySem.W.findIn K (.ref C) "__str__" = some (some (.ref fS))
  strf : PySem.W.isFn K (.ref fS) = true
  nf : ∀ n : String, n ∈ ["NoneType", "int", "bool", "str", "tuple", "list", "dict"] → PySem.W.notFirst K C (.type n) = true
section
variable {prog : Program} {w : World} {A : Around} {E : Value → Shared → Prop} {s : Shared} {K : PySem.W.Frag} {x C f : Addr} {ox : Obj} {od : Option Obj}
end
end Z
set_option Elab.async false
set_option linter.all false
set_option maxRecDepth 100000
namespace Z
open PySem PySem.Spec L2 PySem.Calls
open PyProof.Rows hiding St
section
variable {prog : Program} {w : World} {A : Around} {E : Value → Shared → Prop} {s : Shared} {K : PySem.W.Frag} {x C f : Addr} {ox : Obj} {od : Option Obj}
end
end Z
set_option Elab.async false
set_option linter.all false
set_option maxRecDepth 100000
namespace Z
open PySem PySem.Spec L2
open PyProof.Rows hiding St
section
variable {X : Cx} {k : Nat} {C fE fL fS f : Addr} {fd : FuncData} {ps : List Str} {sp : Sp}
end
/-! over plain values -/
section
variable {X : Cx} {T : List (Addr × Str)} {k : Nat} {C fE fL fS f : Addr} {fd : FuncData} {ps ks : List Str} {sp : SpP} {sr : SpR} {a b e : Expr} {es : List Expr} {ta tb : TEp} {t tk : TAp} {pos p : Pos} {x : Str} {kws : List Keyword}
/-! C(k = v, ..) -/
end
end Z
set_option Elab.async false
set_option linter.all false
set_option maxRecDepth 100000
namespace Z
open PySem PySem.Spec L2
open PyProof.Rows hiding St
/-! ### texts that are shown tell the values -/
/-! names, rows -/
def LowS (x : Str) : Prop := ∀ c ∈ x.cps.toList, 97 ≤ c ∧ c ≤ 122
abbrev Row3 := Str × Int × Int
structure GoodR (r : Row3) : Prop where
  low : LowS r.1
  s0 : 0 ≤ r.2.1
  e0 : 0 ≤ r.2.2
def joinL : List (List Nat) → List Nat
  | [] => []
  | [x] => x
  | x :: y :: r => x ++ 44 :: 32 :: joinL (y :: r)
end Z
set_option Elab.async false
set_option linter.all false
set_option maxRecDepth 100000
namespace Z
open PySem PySem.Spec L2 StX
open PyProof.Rows hiding St
section
variable {X : Cx} {T : List (Addr × Str)} {e : Expr} {es : List Expr} {te : TEp} {t : TAp} {pos p : Pos}
/-! [a, *xs] -/
def tStarP (te : TEp) (t : TAp) : TAp := fun η P => te η fun x η1 => match x with
  | .lst xs => t η1 fun ys η2 => P (xs ++ ys) η2
  | .tup xs => t η1 fun ys η2 => P (xs ++ ys) η2
  | _ => False
theorem za_star (he : PE X e (up X.K T te)) (hr : PA X es (upA X.K T t)) (hs : starEach (.Starred e p :: es) X.env = (true, eval e X.env) :: starEach es X.env := by rfl) : PA X (.Starred e p :: es) (upA X.K T (tStarP te t)) := by
  refine PA.weak (pa_star he hr hs) fun σ H Q q => ?_
  obtain ⟨F, η, P, R, h, k⟩ := q
  refine ⟨F, η, _, R, h, fun x η1 v H1 h1 e1 R1 r1 => ?_⟩
  split at h1
  · obtain ⟨a, vs, rfl, n, q, rr⟩ := r1.lst_
    exact ⟨a, vs, rfl, .inr (SqL.of q), F, η1, _, R1, h1, fun ys η2 ws H2 h2 e2 R2 r2 => k _ η2 _ H2 h2 (e1.trans e2) R2 ((rr.car e2.car).app r2)⟩
  · obtain ⟨a, vs, rfl, q, rr⟩ := r1.tup_
    exact ⟨a, vs, rfl, .inl q.sq, F, η1, _, R1, h1, fun ys η2 ws H2 h2 e2 R2 r2 => k _ η2 _ H2 h2 (e1.trans e2) R2 ((rr.car e2.car).app r2)⟩
  · cases h1
/-! f-strings -/
/-! slices of tuples, also whole -/
def rSlA : PV → Option Int → Option Int → (PV → Prop) → Prop := fun x lo hi P => match x with
  | .tup xs => P (.tup (cutP xs lo hi))
  | _ => False
theorem cut_whole {α : Type} {xs : List α} {lo hi : Option Int} (h : HT.sIx xs.length 0 lo = 0 ∧ HT.sIx xs.length xs.length hi = xs.length) : cutP xs lo hi = xs := by
  unfold cutP
  rw [h.1, h.2, List.drop_zero, Nat.sub_zero, List.take_length]
theorem zl_slA : SlR X (fun x lo hi H Q => ∃ O px P, Trk O H ∧ Rep X.K O H px x ∧ rSlA px lo hi P ∧ Out X.K O H P Q) := by
  refine SlR.weak (sl_tupA (X := X)) fun x lo hi H Q h => ?_
  obtain ⟨O, px, P, tr, hx, h, k⟩ := h
  unfold rSlA at h
  split at h
  · rename_i xs
    have hx' := hx
    obtain ⟨a, vs, rfl, q, rr⟩ := hx.tup_
    refine ⟨a, vs, rfl, q.sq, fun w => ?_, fun _ p hp => k.newT h tr (cut_reps rr) hp⟩
    rw [rr.len] at w
    rw [cut_whole w] at h
    exact k _ _ H h (fun _ _ z => z) hx'
  · cases h
def tSliceAP (te : TEp) (tl th : TOp) : TEp := fun η P => te η fun x η1 => tl η1 fun l η2 => th η2 fun u η3 => rSlA x l u fun z => P z η3
theorem z_sliceA {lo hi : Option Expr} {tl th : TOp} {p2 : Pos} (he : PE X e (up X.K T te)) (hl : PO X lo (upO X.K T tl)) (hu : PO X hi (upO X.K T th)) : PE X (.Subscript e (.Slice lo hi none p2) pos) (up X.K T (tSliceAP te tl th)) := by
  refine PE.weak (pe_slice zl_slA he hl hu) fun σ H Q q => ?_
  obtain ⟨F, η, P, R, h, k⟩ := q
  refine ⟨F, η, _, R, h, fun x η1 v H1 h1 e1 R1 r1' => ⟨F, η1, _, R1, h1, fun l η2 H2 h2 e2 R2' => ⟨F, η2, _, R2', h2, fun u η3 H3 h3 e3 R3 => ?_⟩⟩⟩
  exact ⟨Oof F σ η3, x, _, R3.trO, (r1'.car e2.car).car e3.car, h3, fun z u H4 pz s rz => k z η3 u H4 pz (((e1.trans e2).trans e3).trans (.same s)) (R3.same s) rz⟩
end
/-! name = [..] on one line -/
theorem val_weak {K : PySem.W.Frag} {T : List (Addr × Str)} {tf : TFp} {σ : St} {H : Hp} {Q : VK} (q : up K T (tValP tf) σ H Q) : upF K T tf σ H Q := by
  obtain ⟨F, η, P, R, h, k⟩ := q
  refine ⟨F, η, _, R, h, fun xs η' a vs H' h1 e1 R1 hn nf hv r => ?_⟩
  refine k _ _ _ _ h1 e1 (R1.shrink fun b z => .inl z) ?_
  unfold Rep
  refine ⟨a, vs, rfl, fun z => ?_, hv, r.mono fun b z => z.elim (fun z => .inl (.inl z)) .inr⟩
  rcases z with z | ⟨j, p, h1, h2⟩
  · exact nf z
  · obtain ⟨b, q1, q2, q3⟩ := R1.ow j p h2
    rw [h1] at q1; cases q1
    exact q3 (.inr rfl)
theorem z_setLc {X : Cx} {T : List (Addr × Str)} {y : Str} {py : Pos} {elt tg iter : Expr} {ifs : List Expr} {scope : Scope} {own : List (Str × Nat)} {pos spos : Pos} {i : Nat} {ti : TIp} {g : TGp} {tt : TTp} {te : TEp}
    (pf : PS X (.Assign [.Name y py] (.ListComp elt [⟨tg, iter, ifs, 0⟩] scope pos) spos) (tAsg (tLc (upI X.K T ti) (upGw X.K T (own.map (·.2)) g) (upB X.K T tt) (up X.K T te) (own.map (·.2))) (gName i))) :
    PS X (.Assign [.Name y py] (.ListComp elt [⟨tg, iter, ifs, 0⟩] scope pos) spos) (upS X.K T (tSetP i (tValP (tLcP ti g tt te (own.map (·.2)))))) := by
  refine PS.weak pf fun D σ H q => lc_weak (val_weak ?_)
  obtain ⟨F, η, D', R, h, k1, k2, k3, k4⟩ := q
  exact ⟨F, η, _, R, h, fun x η1 v H1 h1 e1 R1 r => k1 _ _ _ h1 (e1.trans .setv) (R1.setv r)⟩
end Z
set_option Elab.async false
set_option linter.all false
set_option maxRecDepth 100000
namespace Z
open PySem PySem.Spec L2 GenW
open PyProof.Rows hiding St
/-! ### a for in a generator's body -/
section
variable {prog : Program} {w : World} {A : Around} {R : GenEnd} {Y : Protocol} {n : Nat} {s0 : Shared} {fs : List Frame} {s : Shared} {env : Env}
end
section
variable {X : Cx}
end
end Z
set_option Elab.async false
set_option linter.all false
set_option maxRecDepth 100000
namespace Z
open PySem PySem.Spec L2 GenW
open PyProof.Rows hiding St
/-! ### a generator method that hands out what a field holds -/
/-! list(o.m()) over plain values -/
section
variable {X : Cx} {T : List (Addr × Str)} {k : Nat} {C f : Addr} {fd : FuncData} {o : Expr} {ta : TEp} {m fl nm : Str} {pos pos' apos p : Pos}
end
end Z
set_option Elab.async false
set_option linter.all false
set_option maxRecDepth 100000
namespace Z
open PySem PySem.Spec L2
open PyProof.Rows hiding St
/-! ### repr(o) by an own __repr__ -/
section
variable {X : Cx} {T : List (Addr × Str)} {k : Nat} {C f : Addr} {fd : FuncData} {ps : List Str} {sp : Sp} {e : Expr} {es : List Expr} {t : TAp} {x : Str} {p pos : Pos}
end
/-! ### max(l, default=d) of ints -/
def intsOf : List PV → Option (List Int)
  | [] => some []
  | .int i :: r => (intsOf r).map (i :: ·)
  | _ => none
theorem intsOf_map : ∀ ns : List Int, intsOf (ns.map .int) = some ns
  | [] => rfl
  | n :: ns => by rw [List.map_cons, intsOf, intsOf_map ns]; rfl
section
variable {X : Cx} {T : List (Addr × Str)} {e : Expr} {es : List Expr} {kws : List Keyword} {t tk : TAp} {x : Str} {p pos : Pos}
end
end Z
set_option Elab.async false
set_option linter.all false
set_option maxRecDepth 100000
namespace Z
open PySem PySem.Spec L2 StX
open PyProof.Rows hiding St
/-! ### x in l, flat values -/
def flV : PV → Option V
  | .non => some .non
  | .bl b => some (.bl b)
  | .int i => some (.int i)
  | .str z => some (.str z)
  | _ => none
def flVs : List PV → Option (List V)
  | [] => some []
  | x :: r => (flV x).bind fun v => (flVs r).map (v :: ·)
theorem flV_rep {K : PySem.W.Frag} {O : Addr → Prop} {H : Hp} {x : PV} {v w : V} (h : Rep K O H x v) (e : flV x = some w) : v = w ∧ flatV w = true := by
  cases x <;> unfold flV at e <;> cases e
  · exact ⟨h.non_, rfl⟩
  · exact ⟨h.bl_, rfl⟩
  · exact ⟨h.int_, rfl⟩
  · exact ⟨h.str_, rfl⟩
theorem flVs_rep {K : PySem.W.Frag} {O : Addr → Prop} {H : Hp} : ∀ {xs : List PV} {vs ws : List V}, Reps K O H xs vs → flVs xs = some ws → vs = ws ∧ ws.all flatV = true
  | [], _, _, r, e => by cases r.inv0; cases e; exact ⟨rfl, rfl⟩
  | x :: xs, _, ws, r, e => by
    obtain ⟨v, vs, rfl, r1, r2⟩ := r.inv
    rw [flVs] at e
    obtain ⟨u, e1, e2⟩ := Option.bind_eq_some_iff.mp e
    obtain ⟨us, e3, rfl⟩ := Option.map_eq_some_iff.mp e2
    obtain ⟨a1, a2⟩ := flV_rep r1 e1
    obtain ⟨b1, b2⟩ := flVs_rep r2 e3
    exact ⟨by rw [a1, b1], by rw [List.all_cons, a2, b2]; rfl⟩
def itemsOf : PV → Option (List PV)
  | .lst xs => some xs
  | .tup xs => some xs
  | _ => none
def rInL (neg : Bool) : R2p := fun x y P => ∃ v ys vs, flV x = some v ∧ itemsOf y = some ys ∧ flVs ys = some vs ∧ P (.bl (if neg then !inV v vs else inV v vs))
section
variable {X : Cx}
theorem inL_raw {neg : Bool} : ∀ x y H Q, r2 X.K (rInL neg) x y H Q → rIn X.K neg x y H Q := fun x y H Q h => by
  obtain ⟨O, px, py, P, tr, hx, hy, ⟨v, ys, vs, e1, e2, e3, h⟩, k⟩ := h
  obtain ⟨rfl, f1⟩ := flV_rep hx e1
  cases py <;> unfold itemsOf at e2 <;> cases e2
  · obtain ⟨a, us, rfl, q, rr⟩ := hy.tup_
    obtain ⟨rfl, f2⟩ := flVs_rep rr e3
    exact ⟨a, us, rfl, .inr q.sq, f1, f2, k.bl h⟩
  · obtain ⟨a, us, rfl, n, q, rr⟩ := hy.lst_
    obtain ⟨rfl, f2⟩ := flVs_rep rr e3
    exact ⟨a, us, rfl, .inl (SqL.of q), f1, f2, k.bl h⟩
theorem zo_notInL : OpR X (compareOp .NotIn) (r2 X.K (rInL true)) := OpR.weak (op_notIn_seq (X := X)) inL_raw
end
/-! ### methods with a star parameter -/
section
variable {X : Cx} {T : List (Addr × Str)} {k : Nat} {C f : Addr} {sp : SpP} {m : Str} {o e : Expr} {es : List Expr} {ta : TEp} {t : TAp} {apos pos : Pos}
end
end Z
set_option Elab.async false
set_option linter.all false
set_option maxRecDepth 100000
namespace Z
open PySem PySem.Spec L2 StX
open PyProof.Rows hiding St
/-! ### a def(self, *names) by its body -/
section
variable {P : Program} {w : World} {K : PySem.W.Frag} {mg : Str → Option Value} {base : Heap} {T : List (Addr × Str)}
end
/-! ### a, b, .. = list -/
section
variable {X : Cx} {T : List (Addr × Str)} {es : List Expr} {pos : Pos} {k : Nat}
end
end Z
set_option Elab.async false
set_option linter.all false
set_option maxRecDepth 100000
namespace Z
open PySem PySem.Spec L2 StX
open PyProof.Rows hiding St
section
variable {X : Cx} {T : List (Addr × Str)} {C : Addr} {sp : SpP} {m : Str} {e : Expr} {ta : TEp}
end
end Z
set_option Elab.async false
set_option linter.all false
set_option maxRecDepth 100000
namespace Z
open PySem PySem.Spec L2
open PyProof.Rows hiding St
/-! ### o.m(k = v, ..), o.m(a, k = v), f(k = v), f(a, k = v) -/
def pick {α : Type} (is : List Nat) (xs : List α) : List α := is.filterMap fun i => xs[i]?
structure KwB (K : PySem.W.Frag) (fd : FuncData) (ps : List Str) (n : Nat) (ks : List Str) (is : List Nat) : Prop where
  to : ∀ (s : Shared) (us ws : List Value), K.In s.heap → us.length = n → ws.length = ks.length → BindsTo s fd ⟨us, ks.zip ws⟩ (ps.zip (us ++ pick is ws))
  ln : n + is.length = ps.length ∧ ∀ i ∈ is, i < ks.length
section
variable {X : Cx} {CX : CXT} {k n : Nat} {f : Addr} {fd : FuncData} {ps ks : List Str} {sp : Sp} {E : XK} {is : List Nat}
end
section
variable {X : Cx} {CX : CXT} {k n : Nat} {C f : Addr} {sp : Sp} {E : XK} {o e : Expr} {es : List Expr} {m x : Str} {pos apos p : Pos} {ta : TE} {t tk : TA} {pl : Sem Bool} {fd : FuncData} {ps ks : List Str} {kws : List Keyword} {is : List Nat}
end
/-! over plain values -/
section
variable {X : Cx} {T : List (Addr × Str)} {k n nk : Nat} {C f : Addr} {sp : SpP} {o e : Expr} {m : Str} {ta : TEp} {t tk : TAp} {is : List Nat}
end
end Z
set_option Elab.async false
set_option linter.all false
set_option maxRecDepth 100000
/-! ### what runs leaves sleeping generators as they are, if it would also run where they can't be woken -/
namespace Z
open PySem
open Sem (wp)
def stung : GenState → GenState
  | .suspended _ l c p fs _ => .suspended (fun _ => .unsupported "") l c p fs false
  | x => x
def sleeps : GenState → Bool
  | .suspended .. => true
  | _ => false
def isGenF : Frame → Bool
  | .gen .. => true
  | _ => false
def NoG (fs : List Frame) : Prop := ∀ F ∈ fs, isGenF F = false
def NoGS : GenState → Prop
  | .suspended _ _ _ _ fs _ => NoG fs
  | _ => True
def pickG (y : Option GenState) (x : GenState) : GenState := match y with
  | some y => if sleeps y = true then y else x
  | none => x
def un (G : Array GenState) (s : Shared) : Shared := { s with gens := s.gens.mapIdx fun i x => pickG G[i]? x }
structure Good (G : Array GenState) (s : Shared) : Prop where
  sz : G.size ≤ s.gens.size
  sl : ∀ (i : Nat) (y : GenState), G[i]? = some y → sleeps y = true → s.gens[i]? = some (stung y)
  no : ∀ (i : Nat) (x : GenState), (∀ y, G[i]? = some y → sleeps y = false) → s.gens[i]? = some x → NoGS x
section
variable {G : Array GenState} {s : Shared}
theorem Good.of {s' : Shared} (g : Good G s) (e : s'.gens = s.gens) : Good G s' := ⟨by rw [e]; exact g.sz, by rw [e]; exact g.sl, by rw [e]; exact g.no⟩
end
end Z
set_option Elab.async false
set_option linter.all false
set_option maxRecDepth 100000
namespace Z
open PySem L2
open Sem (wp)
open PyProof.Rows hiding St
section
variable {M : Model} {G : Array GenState}
def Still (G : Array GenState) (s : Shared) : Prop := ∀ (i : Nat) (y : GenState), G[i]? = some y → sleeps y = true → s.gens[i]? = some y
end
section
variable {X : Cx} {pins : List (Addr × Obj)} {σ : L2.St} {H : Hp} {s : Shared}
end
end Z
set_option Elab.async false
set_option linter.all false
set_option maxRecDepth 100000
/-! ### a generator whose body is: for row in self.field: yield row -/
namespace Z
open PySem PySem.Spec L2 GenW
open PyProof.Rows hiding St
structure WRel (it L : Addr) (s0 s : Shared) : Prop where
  os : s.os = s0.os
  gens : s.gens = s0.gens
  keep : ∀ b o, b ≠ it → b ≠ L → s0.heap.get? b = some o → s.heap.get? b = some o
def TupQ (qs : List V) (q : Addr) (h : Heap) : Prop := ∃ its : List Value, Vals qs its ∧ h.IsTuple q its.toArray
structure WAt (it L q : Addr) (i : Nat) (h : Heap) : Prop where
  ns : ∃ m, h.Ns L m
  it : h.IsTupleIter it q i
def YW (it L q : Addr) (qs : List V) (N : Nat) : Protocol := fun n s0 v s1 kap =>
  ∃ i x, n + (i + 1) = N ∧ qs[i]? = some x ∧ RelV x v ∧ WRel it L s0 s1 ∧ WAt it L q (i + 1) s1.heap ∧ ∀ s'', WAt it L q (i + 1) s''.heap → TupQ qs q s''.heap → kap (.send .none) s'' ∧ kap (.send (.bool true)) s''
def FW (it L : Addr) (qs : List V) (N n : Nat) (s0 s1 : Shared) : Prop := N = n + qs.length ∧ WRel it L s0 s1
def RW (it L : Addr) (qs : List V) (N : Nat) : GenEnd := fun n s0 r s1 => ((r = .ok (.ret .none) ∨ r = .ok .next) ∧ FW it L qs N n s0 s1) ∨ ∃ e, r = .error e ∧ False
theorem WRel.refl {it L : Addr} {s : Shared} : WRel it L s s := ⟨rfl, rfl, fun _ _ _ _ e => e⟩
theorem WRel.trans {it L : Addr} {s0 s1 s2 : Shared} (a : WRel it L s0 s1) (b : WRel it L s1 s2) : WRel it L s0 s2 := ⟨b.os.trans a.os, b.gens.trans a.gens, fun c o h1 h2 e => b.keep c o h1 h2 (a.keep c o h1 h2 e)⟩
theorem WRel.toks {it L : Addr} {s0 s : Shared} {t : Nat} (a : WRel it L s0 s) : WRel it L s0 { s with toks := t } := ⟨a.os, a.gens, a.keep⟩
section
variable {prog : Program} {w : World} {A : Around} {env : Env} {it L q : Addr} {qs : List V} {p1 p2 p3 p4 p5 p6 p7 : Pos}
abbrev wBody (p4 p5 p6 : Pos) : List Stmt := [.Expr (.Yield (some (.Name "row" p4)) p5) p6]
abbrev wFor (p1 p2 p3 p4 p5 p6 p7 : Pos) (f : Str) : Stmt := .For (.Name "row" p1) (.Attribute (.Name "self" p2) f p3) (wBody p4 p5 p6) [] p7
end
end Z
set_option Elab.async false
set_option linter.all false
set_option maxRecDepth 100000
/-! ### the steps of such a generator, seen from outside -/
namespace Z
open PySem PySem.Spec L2 GenW
open PyProof.Rows hiding St
section
variable {P : Program} {w : World} {A : Around} {a it L q : Addr} {g : Nat} {qs : List V}
structure GAt (P : Program) (w : World) (A : Around) (a it L q : Addr) (g : Nat) (qs : List V) (i : Nat) (s : Shared) : Prop where
  gs : ∃ gs : GenState, s.gens[g]? = some gs ∧ sleeps gs = true ∧ gs.bare = true ∧ ∀ s'', WAt it L q i s''.heap → TupQ qs q s''.heap → gs.Goes (model P w) A.in1 (RW it L qs qs.length) (YW it L q qs qs.length) (qs.length - i) (.send .none) s''
  at_ : WAt it L q i s.heap
  gen : s.heap.IsGen a g
structure GStep (it L : Addr) (g : Nat) (s s1 : Shared) : Prop where
  os : s1.os = s.os
  bare : AllBare s.gens → AllBare s1.gens
  keep : ∀ b o, b ≠ it → b ≠ L → s.heap.get? b = some o → s1.heap.get? b = some o
end
section
variable {X : Cx} {pins : List (Addr × Obj)} {σ : L2.St} {H : Hp} {s s1 : Shared} {it L : Addr} {g : Nat}
end
end Z
set_option Elab.async false
set_option linter.all false
set_option maxRecDepth 100000
set_option maxHeartbeats 1000000
/-! ### such a generator made by a call -/
namespace Z
open PySem PySem.Spec L2 GenW
open PyProof.Rows hiding St
structure WNew (P : Program) (w : World) (fl : Str) (o a L : Addr) (g : Nat) (s : Shared) : Prop where
  gen : s.heap.IsGen a g
  gs : ∃ env p1 p2 p3 p4 p5 p6 p7, s.gens[g]? = some (.fresh (.func [wFor p1 p2 p3 p4 p5 p6 p7 fl] env)) ∧ env.scope.kind = .function ∧ env.kindOf "self" = some .local ∧ env.kindOf "row" = some .local ∧ env.scope.isCoroutine = false ∧
    interactive env = false ∧ env.locals = L ∧ attributeBase (.Name "self" p2) fl env (eval (.Name "self" p2) env) = eval (.Name "self" p2) env
  ns : ∃ m, s.heap.Ns L m ∧ m "self" = some (.ref o)
structure WMade (P : Program) (w : World) (fl : Str) (o : Addr) (s : Shared) (u : Value) (s' : Shared) : Prop where
  ex : ∃ a L g, u = .ref a ∧ s.heap.objs.size ≤ a ∧ s.heap.objs.size ≤ L ∧ WNew P w fl o a L g s'
  os : s'.os = s.os
  bare : AllBare s'.gens
  keep : ∀ b ob, s.heap.get? b = some ob → s'.heap.get? b = some ob
structure WFn (P : Program) (w : World) (K : PySem.W.Frag) (mg : Str → Option Value) (base : Heap) (k : Nat) (f : Addr) (fd : FuncData) (fl : Str) : Prop where
  run : ∀ (A : Around) (outer : List Env) (s : Shared) (H : Hp) (args : Args) (o : Addr), Room k A → Env0 P w K mg base A outer s H → BindsTo s fd args (([("self" : Str)]).zip [Value.ref o]) →
    codeAny (model P w) A (.call (.ref f) args) (fun r s' => match r with | .ok (.ret u) => WMade P w fl o s u s' | _ => False) s
/-! o.m() of such a method -/
section
variable {X : Cx} {k : Nat} {C f : Addr} {fd : FuncData} {fl m : Str} {o : Expr} {ta : TE} {pos' apos : Pos}
structure PWk (X : Cx) (C : Addr) (fl : Str) (e : Expr) (tw : St → Hp → (Addr → Addr → List V → Hp → Prop) → Prop) : Prop where
  run : ∀ (pins : List (Addr × Obj)) (s : Shared) (σ : L2.St) (H : Hp) (R : Addr → Addr → List V → Hp → Prop), Inv X pins σ H s → tw σ H R → wpAny (model X.prog X.w) X.A (eval e X.env)
    (fun u s' => ∃ o q qs H1 a L g, u = .ref a ∧ Inv X pins σ H1 s' ∧ FpOk X pins H1 a ∧ FpOk X pins H1 L ∧ WNew X.prog X.w fl o a L g s' ∧ (∃ dx fs, H1 o = some (.ins C dx fs) ∧ fs.lookup fl = some (.ref q)) ∧ SqT X.K H1 q qs ∧ qs.length < 1000 ∧ R o q qs H1) X.xe s
end
end Z
set_option Elab.async false
set_option linter.all false
set_option maxRecDepth 100000
set_option maxHeartbeats 1000000
/-! ### for target in o.m(): body, where the generator sleeps while the body works -/
namespace Z
open PySem PySem.Spec L2 GenW
open PyProof.Rows hiding St
section
variable {X : Cx} {C : Addr} {fl : Str} {e : Expr} {tw : St → Hp → (Addr → Addr → List V → Hp → Prop) → Prop}
theorem Still.trans {G : Array GenState} {s s' : Shared} (h : Still G s) (k : Still s.gens s') : Still G s' := fun i y e z => k i y (h i y e z) z
end
end Z
set_option Elab.async false
set_option linter.all false
set_option maxRecDepth 100000
set_option maxHeartbeats 1000000
/-! ### [elt for target in o.m() if ..] -/
namespace Z
open PySem PySem.Spec L2 GenW
open PyProof.Rows hiding St
section
variable {X : Cx} {C : Addr} {fl : Str} {tw : St → Hp → (Addr → Addr → List V → Hp → Prop) → Prop}
end
end Z
set_option Elab.async false
set_option linter.all false
set_option maxRecDepth 100000
set_option maxHeartbeats 1000000
/-! ### the same over plain values -/
namespace Z
open PySem PySem.Spec L2 GenW
open PyProof.Rows hiding St
section
variable {X : Cx} {C : Addr} {fl : Str} {tw : St → Hp → (Addr → Addr → List V → Hp → Prop) → Prop}
end
section
variable {X : Cx} {T : List (Addr × Str)} {C : Addr} {m fl : Str} {ta : TEp} {pos : Pos}
end
end Z
set_option Elab.async false
set_option linter.all false
set_option maxRecDepth 100000
namespace Z
open PySem PySem.Spec L2
open PyProof.Rows hiding St
section
variable {X : Cx}
theorem ints_rep {K : PySem.W.Frag} {O : Addr → Prop} {H : Hp} : ∀ {xs : List PV} {vs : List V} {ns : List Int}, Reps K O H xs vs → intsOf xs = some ns → vs = ns.map V.int
  | [], _, _, r, e => by cases e; exact r.inv0
  | x :: xs, _, _, r, e => by
    obtain ⟨v, vs, rfl, r1, r2⟩ := r.inv
    cases x with
    | int i =>
      rw [intsOf] at e
      obtain ⟨ms, e1, rfl⟩ := Option.map_eq_some_iff.mp e
      rw [r1.int_, ints_rep r2 e1]
      rfl
    | _ => cases e
end
end Z
set_option Elab.async false
set_option linter.all false
set_option maxRecDepth 100000
namespace Z
open PySem PySem.Spec L2
open PyProof.Rows hiding St
/-! ### x += e, x -= e, x *= e of ints -/
section
variable {X : Cx} {T : List (Addr × Str)} {e : Expr} {te : TEp} {pos : Pos}
end
/-! ### a comprehension over an own list -/
section
variable {X : Cx} {T : List (Addr × Str)} {pos : Pos}
end
/-! ### enumerate over a text -/
section
variable {X : Cx} {T : List (Addr × Str)} {e : Expr} {te : TEp}
end
end Z
set_option Elab.async false
set_option linter.all false
set_option maxRecDepth 100000
/-! tuple + tuple, any of them empty; sorted of a tuple; steps of two through a tuple -/
namespace Z
open PySem PySem.Spec L2
open PyProof.Rows hiding St
section
variable {X : Cx}
/-! ### t + u -/
end
/-! ### sorted(t) -/
section
variable {prog : Program} {w : World} {A : Around} {E : Value → Shared → Prop} {s : Shared} {β : Type} {vs : List Value} {bs : List β} {enc : β → PyData} {R : Value → β → Prop}
end
section
variable {X : Cx}
end
end Z
set_option Elab.async false
set_option linter.all false
set_option maxRecDepth 100000
/-! every second item of a tuple -/
namespace Z
open PySem PySem.Spec L2 HT
open PyProof.Rows hiding St
section
variable {prog : Program} {w : World} {A : Around} {E : Value → Shared → Prop} {s : Shared}
end
section
variable {X : Cx} {T : List (Addr × Str)} {e : Expr} {te : TEp} {pos : Pos}
end
end Z
set_option Elab.async false
set_option linter.all false
set_option maxRecDepth 100000
/-! a set made of a list of ints, with the order of its table; sorted of it -/
namespace Z
open PySem PySem.Spec L2
open PyProof.Rows hiding St
section
variable {prog : Program} {w : World} {A : Around} {R : Result → Shared → Prop} {I : Addr} {fp wr : List Addr} {G : Array GenState → Array GenState → Prop} {n : Nat} {P : Nat → Value → Prop} {St : Nat → Shared → Prop}
end
section
variable {prog : Program} {w : World} {A : Around} {E : Value → Shared → Prop} {s : Shared}
end
end Z
set_option Elab.async false
set_option linter.all false
set_option maxRecDepth 100000
/-! zip of two tuples or of two lists; reversed; l[::-1] -/
namespace Z
open PySem PySem.Spec L2
open PyProof.Rows hiding St
def zipP (xs ys : List PV) : List PV := List.zipWith (fun x y => PV.tup [x, y]) xs ys
theorem zipP_get {xs ys : List PV} {i : Nat} {z : PV} (h : (zipP xs ys)[i]? = some z) : ∃ x y, xs[i]? = some x ∧ ys[i]? = some y ∧ z = .tup [x, y] := by
  unfold zipP at h
  rw [List.getElem?_zipWith] at h
  cases p : xs[i]? with
  | none => rw [p] at h; cases h
  | some x =>
    cases q : ys[i]? with
    | none => rw [p, q] at h; cases h
    | some y => rw [p, q] at h; exact ⟨x, y, rfl, rfl, (Option.some.inj h).symm⟩
theorem zipP_end {xs ys : List PV} {i : Nat} (h : (zipP xs ys).length = i) : xs.length ≤ i ∨ ys.length ≤ i := by
  unfold zipP at h
  rw [List.length_zipWith] at h
  omega
section
variable {X : Cx} {T : List (Addr × Str)} {e e2 tg : Expr} {te : TEp} {t : TAp}
theorem it_zipT {K : PySem.W.Frag} {O H} {a b : Addr} {xs ys : List PV} {vs us : List V} (t1 : TupAt K O H a vs) (t2 : TupAt K O H b us) (r1 : Reps K O H xs vs) (r2 : Reps K O H ys us) : Itr8 K O (RZ.ItzT K a b) (zipP xs ys) H := fun O' H' tr c _ i => by
  have h1 := t1.inj_car c
  have h2 := t2.inj_car c
  have s1 := r1.car c
  have s2 := r2.car c
  refine ⟨fun z e => ?_, fun e => ⟨vs, us, h1, h2, by rw [s1.len, s2.len]; exact zipP_end e⟩⟩
  obtain ⟨x, y, hx, hy, rfl⟩ := zipP_get e
  obtain ⟨v, e1, q1⟩ := s1.get hx
  obtain ⟨u, e2, q2⟩ := s2.get hy
  refine ⟨⟨vs, us, v, u, h1, h2, e1, e2⟩, fun w H'' q => ?_⟩
  obtain ⟨p, x', y', rfl, hp, rfl, kx, ky⟩ := q
  have k1 := kx vs h1
  have k2 := ky us h2
  rw [e1] at k1; cases k1
  rw [e2] at k2; cases k2
  exact ⟨Same.new hp, rep_newT tr hp (.cons q1 (.cons q2 .nil))⟩
theorem it_zipL {K : PySem.W.Frag} {O H} {a b : Addr} {xs ys : List PV} {vs us : List V} (n1 : ¬ O a) (t1 : H a = some (.lst vs)) (n2 : ¬ O b) (t2 : H b = some (.lst us)) (r1 : Reps K O H xs vs) (r2 : Reps K O H ys us) : Itr8 K O (Itz K a b) (zipP xs ys) H := fun O' H' tr c _ i => by
  have h1 : SqL K H' a vs := SqL.of (c a _ n1 t1 nofun).1
  have h2 : SqL K H' b us := SqL.of (c b _ n2 t2 nofun).1
  have s1 := r1.car c
  have s2 := r2.car c
  refine ⟨fun z e => ?_, fun e => ⟨vs, us, h1, h2, by rw [s1.len, s2.len]; exact zipP_end e⟩⟩
  obtain ⟨x, y, hx, hy, rfl⟩ := zipP_get e
  obtain ⟨v, e1, q1⟩ := s1.get hx
  obtain ⟨u, e2, q2⟩ := s2.get hy
  refine ⟨⟨vs, us, v, u, h1, h2, e1, e2⟩, fun w H'' q => ?_⟩
  obtain ⟨p, x', y', rfl, hp, rfl, kx, ky⟩ := q
  have k1 := kx vs h1
  have k2 := ky us h2
  rw [e1] at k1; cases k1
  rw [e2] at k2; cases k2
  exact ⟨Same.new hp, rep_newT tr hp (.cons q1 (.cons q2 .nil))⟩
def iZipP (t : TAp) : TIp := fun η P => t η fun zs η1 => match zs with
  | [.tup xs, .tup ys] => P (zipP xs ys) η1
  | [.lst xs, .lst ys] => P (zipP xs ys) η1
  | _ => False
theorem zi_zip {p pos tpos : Pos} {elts : List Expr} {kk : Nat} (hg : Gl X "zip") (hm : X.mg "zip" = none) (ha : PA X [e, e2] (upA X.K T t))
    (hs : starEach [e, e2] X.env = (false, eval e X.env) :: starEach [e2] X.env := by rfl) (hpl : (backTo pos (starEach [e2] X.env)).any (·.1) = false := by rfl) :
    PI X (.Tuple elts kk tpos) (.Call (.Name "zip" p) [e, e2] [] pos) (upI X.K T (iZipP t)) := by
  refine PI.weak (RZ.pi_zipA hg hm ha hs hpl) fun σ H Q q => ?_
  obtain ⟨F, η, P, R, h, k⟩ := q
  refine ⟨F, η, _, R, h, fun zs η1 vs H1 h1 e1 R1 r1 => ?_⟩
  split at h1
  · obtain ⟨v, w, rfl, ra, rb⟩ := r1.two
    obtain ⟨a, vs, rfl, q, rr⟩ := ra.tup_
    obtain ⟨b, us, rfl, q2, rr2⟩ := rb.tup_
    exact ⟨a, b, vs, us, rfl, .inr ⟨q.sq, q2.sq, k _ _ _ _ h1 e1 R1 (it_zipT q q2 rr rr2)⟩⟩
  · obtain ⟨v, w, rfl, ra, rb⟩ := r1.two
    obtain ⟨a, vs, rfl, n, q, rr⟩ := ra.lst_
    obtain ⟨b, us, rfl, n2, q2, rr2⟩ := rb.lst_
    exact ⟨a, b, vs, us, rfl, .inl ⟨SqL.of q, SqL.of q2, k _ _ _ _ h1 e1 R1 (it_zipL n q n2 q2 rr rr2)⟩⟩
  · cases h1
/-! reversed -/
/-! l[::-1] -/
end
end Z
set_option Elab.async false
set_option linter.all false
set_option maxRecDepth 100000
/-! list(range(a, b)) of any ints; min(l); int(b); sorted(set(l)) -/
namespace Z
open PySem PySem.Spec L2
open PyProof.Rows hiding St
section
variable {prog : Program} {w : World} {A : Around} {E : Value → Shared → Prop} {s : Shared}
end
section
variable {X : Cx}
variable {T : List (Addr × Str)} {e : Expr} {te ta tb : TEp}
def rMinL : R1p := fun ps P => match ps with
  | [.lst ys] => ∃ ns, intsOf ys = some ns ∧ 0 < ns.length ∧ ∀ m, m ∈ ns → (∀ x, x ∈ ns → m ≤ x) → P (.int m)
  | _ => False
theorem zc_minL (hc : X.calm = true) : CallR X (.builtin "min") (r1 X.K rMinL) := by
  refine CallR.weak (cr_min hc) fun xs H Q h => ?_
  obtain ⟨O, ps, P, tr, hx, h, k⟩ := h
  unfold rMinL at h
  split at h
  · obtain ⟨ns, e, h0, h⟩ := h
    obtain ⟨v, rfl, r⟩ := hx.one
    obtain ⟨a, vs, rfl, n, q, rr⟩ := r.lst_
    have := ints_rep rr e
    subst this
    exact ⟨a, ns, rfl, SqL.of q, h0, fun m h1 h2 => k _ _ _ (h m h1 h2) (Same.refl _) (by unfold Rep; rfl)⟩
  · cases h
end
end Z
set_option Elab.async false
set_option linter.all false
set_option maxRecDepth 100000
/-! f(.., own list): a def that hands out a new flat list reads an own list as its last argument -/
namespace Z
open PySem PySem.Spec L2
open PyProof.Rows hiding St
section
variable {X : Cx} {T : List (Addr × Str)} {e : Expr} {es : List Expr} {te ta : TEp} {t : TAp} {pos p : Pos} {k : Nat} {f : Addr} {fd : FuncData} {ps : List Str} {x : Str} {i : Nat}
end
end Z
set_option Elab.async false
set_option linter.all false
set_option maxRecDepth 100000
set_option maxHeartbeats 1000000
/-! for target in zip(o.m(), l): a generator method beside a list -/
namespace Z
open PySem PySem.Spec L2 GenW
open PyProof.Rows hiding St
section
variable {P : Program} {w : World} {A : Around} {E : Value → Shared → Prop} {s : Shared}
end
section
variable {P : Program} {w : World} {A : Around} {a it L q : Addr} {g : Nat} {qs : List V}
end
section
variable {P : Program} {w : World} {A : Around} {E : Value → Shared → Prop} {s : Shared}
theorem zipN_item {z TI TO i1 i2 l2 : Addr} {k2 : Nat} {ys : Array Value} {y a b : Value} {N : Value → Shared → Prop} {Q : Value → Shared → Prop}
    (TIz : TI ≠ z) (TOz : TO ≠ z) (TOi2 : TO ≠ i2) (i2z : i2 ≠ z) (l2z : l2 ≠ z) (l2TO : l2 ≠ TO)
    (hz : IsZip s.heap z TI TO .none) (hTI : IsPair s.heap TI (.ref i1) (.ref i2)) (hTO : IsPair s.heap TO a b) (h2 : s.heap.IsListIter i2 l2 k2) (hl2 : s.heap.IsList l2 ys) (hy : ys[k2]? = some y)
    (first : ∀ (h₁ : Heap) (Q1 : Value → Shared → Prop) (E1 : Value → Shared → Prop), IsZip h₁ z TI TO .ellipsis → (∀ c o, c ≠ z → s.heap.get? c = some o → h₁.get? c = some o) →
      (∀ v s2, N v s2 → (∀ c o, (c = z ∨ c = TO ∨ c = i2 ∨ c = l2) → h₁.get? c = some o → s2.heap.get? c = some o) → Q1 v s2) → wpAny (model P w) A (Builtin.SmallTypes.nextOf (.ref i1)) Q1 E1 { s with heap := h₁ })
    (hQ : ∀ v s2 h', N v s2 → IsZip h' z TI TO (rawInt s2.heap.objs.size) → IsPair h' TO v y → h'.IsListIter i2 l2 (k2 + 1) → IsPair h' s2.heap.objs.size v y →
      (∀ c o, c ≠ z → c ≠ TO → c ≠ i2 → s2.heap.get? c = some o → h'.get? c = some o) → Q (.ref s2.heap.objs.size) { s2 with heap := h' }) :
    wpAny (model P w) A (Builtin.«zip.__next__» ⟨[.ref z], []⟩) (fun fin s' => ∃ v, fin = .done (.ret v) ∧ Q v s') E s := by
  show wpAny _ _ (field (.ref z) 2 >>= _) _ _ _
  refine wpAny_bind (wpAny_field hz rfl (x := .bool false) rfl ?_)
  show wpAny _ _ (field (.ref z) 3 >>= _) _ _ _
  refine wpAny_bind (wpAny_field hz rfl (x := .ref TI) rfl ?_)
  refine wpAny_bind (wpAny_seqItems hTI rfl ?_)
  show wpAny _ _ (Builtin.SmallTypes.ownedTupleIsFree (.ref z) >>= _) _ _ _
  refine wpAny_bind ?_
  unfold Builtin.SmallTypes.ownedTupleIsFree
  refine wpAny_bind (wpAny_field hz rfl (x := .none) rfl (wpAny_pure ?_))
  simp only [if_true]
  refine wpAny_bind (wpAny_rule ?_)
  refine wpAny_bind (wpAny_field hz rfl (x := .ref TO) rfl ?_)
  refine wpAny_bind (wpAny_setField_rec hz (by simp) fun h₁ hz₁ hs₁ => ?_)
  replace hz₁ : IsZip h₁ z TI TO .ellipsis := hz₁
  refine wpAny_bind ?_
  simp only [List.zipIdx_cons, List.zipIdx_nil, List.forIn_cons, List.forIn_nil]
  refine wpAny_bind (wpAny_bind (wpAny_onRaise ?_))
  show wpAny _ _ (Builtin.SmallTypes.nextOf (.ref i1) >>= _) _ _ _
  refine wpAny_bind (first h₁ _ _ hz₁ (fun c o hc e => hs₁.extBut _ _ hc e) fun v s2 hN keep => wpAny_pure ?_)
  have hTO₂ : IsPair s2.heap TO a b := keep _ _ (.inr (.inl rfl)) (hs₁.extBut _ _ TOz hTO)
  have hz₂ : IsZip s2.heap z TI TO .ellipsis := keep _ _ (.inl rfl) hz₁
  have h2₂ : s2.heap.IsListIter i2 l2 k2 := (h2.extBut hs₁.extBut i2z).at fun o e => keep _ _ (.inr (.inr (.inl rfl))) e
  have hl2₂ : s2.heap.IsList l2 ys := (hl2.extBut hs₁.extBut l2z).at fun o e => keep _ _ (.inr (.inr (.inr rfl))) e
  refine wpAny_bind (wpAny_seqItems hTO₂ rfl ?_)
  refine wpAny_bind (wpAny_updateSeq_pair hTO₂ fun h₃ hTO₃ hs₃ => ?_)
  replace hTO₃ : IsPair h₃ TO v b := hTO₃
  refine wpAny_bind (wpAny_letGo (wpAny_pure ?_))
  refine wpAny_bind (wpAny_bind (wpAny_onRaise ?_))
  show wpAny _ _ (Builtin.SmallTypes.nextOf (.ref i2) >>= _) _ _ _
  refine wpAny_bind (wpAny_nextOf_list_item (h2₂.extBut hs₃.extBut TOi2.symm) (hl2₂.extBut hs₃.extBut l2TO) hy fun h₄ h2₄ hs₄ => wpAny_pure ?_)
  have hTO₄ : IsPair h₄ TO v b := hs₄.extBut _ _ TOi2 hTO₃
  refine wpAny_bind (wpAny_seqItems hTO₄ rfl ?_)
  refine wpAny_bind (wpAny_updateSeq_pair hTO₄ fun h₅ hTO₅ hs₅ => ?_)
  replace hTO₅ : IsPair h₅ TO v y := hTO₅
  refine wpAny_bind (wpAny_letGo (wpAny_pure (wpAny_pure ?_)))
  refine wpAny_bind (wpAny_seqItems hTO₅ rfl ?_)
  refine wpAny_bind (wpAny_newTuple ?_)
  have hsz : h₅.objs.size = s2.heap.objs.size := by rw [hs₅.1, hs₄.1, hs₃.1]
  have hz₅ : IsZip h₅ z TI TO .ellipsis := hs₅.extBut _ _ TOz.symm (hs₄.extBut _ _ i2z.symm (hs₃.extBut _ _ TOz.symm hz₂))
  have hk₅ : ∀ c o, c ≠ z → c ≠ TO → c ≠ i2 → s2.heap.get? c = some o → h₅.get? c = some o := fun c o c1 c2 c4 e =>
    hs₅.extBut _ _ c2 (hs₄.extBut _ _ c4 (hs₃.extBut _ _ c2 e))
  have h2₅ : h₅.IsListIter i2 l2 (k2 + 1) := h2₄.extBut hs₅.extBut TOi2.symm
  have hzlt : z < h₅.objs.size := Heap.lt_size hz₅
  show wpAny _ _ (Builtin.SmallTypes.ownedTupleHandOut (.ref z) (.ref h₅.objs.size) >>= _) _ _ _
  refine wpAny_bind ?_
  unfold Builtin.SmallTypes.ownedTupleHandOut
  have hz₆ : IsZip (h₅.push { cls := .type "tuple", data := .seq #[v, y] }) z TI TO .ellipsis := Heap.get?_push_of_some _ hz₅
  refine wpAny_bind (wpAny_setField_rec hz₆ (by simp) fun h₇ hz₇ hs₇ => ?_)
  replace hz₇ : IsZip h₇ z TI TO (rawInt h₅.objs.size) := hz₇
  refine wpAny_setField_rec hz₇ (by simp) fun h₈ hz₈ hs₈ => ?_
  replace hz₈ : IsZip h₈ z TI TO (rawInt h₅.objs.size) := hz₈
  have up : ∀ c o, c ≠ z → h₅.get? c = some o → h₈.get? c = some o := fun c o c1 e => hs₈.extBut _ _ c1 (hs₇.extBut _ _ c1 (Heap.get?_push_of_some _ e))
  have hT₈ : IsPair h₈ h₅.objs.size v y := hs₈.extBut _ _ (Nat.ne_of_gt hzlt) (hs₇.extBut _ _ (Nat.ne_of_gt hzlt) (Heap.get?_push_size _ rfl))
  rw [hsz] at hz₈ hT₈
  refine wpAny_pure ⟨_, rfl, ?_⟩
  show Q (.ref h₅.objs.size) _
  rw [hsz]
  exact hQ v s2 h₈ hN hz₈ (up _ _ TOz hTO₅) (h2₅.at fun o e => up _ o i2z e) hT₈ fun c o c1 c2 c4 e => up c o c1 (hk₅ c o c1 c2 c4 e)
theorem zipN_end {z TI TO i1 i2 : Addr} {a b : Value} {N : Shared → Prop} {Q : Fin → Shared → Prop} (hz : IsZip s.heap z TI TO .none) (hTI : IsPair s.heap TI (.ref i1) (.ref i2)) (hTO : IsPair s.heap TO a b)
    (first : ∀ (h₁ : Heap) (Q1 : Value → Shared → Prop) (E1 : Value → Shared → Prop), IsZip h₁ z TI TO .ellipsis → (∀ c o, c ≠ z → s.heap.get? c = some o → h₁.get? c = some o) →
      (∀ e s2, N s2 → (∃ o, s2.heap.get? e = some o ∧ o.cls = .type "StopIteration") → (∀ o, h₁.get? z = some o → s2.heap.get? z = some o) → E1 (.ref e) s2) → wpAny (model P w) A (Builtin.SmallTypes.nextOf (.ref i1)) Q1 E1 { s with heap := h₁ })
    (hE : ∀ s2 h' e, N s2 → (∀ c o, c ≠ z → s2.heap.get? c = some o → h'.get? c = some o) → (∃ o, h'.get? e = some o ∧ o.cls = .type "StopIteration") → E (.ref e) { s2 with heap := h' }) :
    wpAny (model P w) A (Builtin.«zip.__next__» ⟨[.ref z], []⟩) Q E s := by
  show wpAny _ _ (field (.ref z) 2 >>= _) _ _ _
  refine wpAny_bind (wpAny_field hz rfl (x := .bool false) rfl ?_)
  show wpAny _ _ (field (.ref z) 3 >>= _) _ _ _
  refine wpAny_bind (wpAny_field hz rfl (x := .ref TI) rfl ?_)
  refine wpAny_bind (wpAny_seqItems hTI rfl ?_)
  show wpAny _ _ (Builtin.SmallTypes.ownedTupleIsFree (.ref z) >>= _) _ _ _
  refine wpAny_bind ?_
  unfold Builtin.SmallTypes.ownedTupleIsFree
  refine wpAny_bind (wpAny_field hz rfl (x := .none) rfl (wpAny_pure ?_))
  simp only [if_true]
  refine wpAny_bind (wpAny_rule ?_)
  refine wpAny_bind (wpAny_field hz rfl (x := .ref TO) rfl ?_)
  refine wpAny_bind (wpAny_setField_rec hz (by simp) fun h₁ hz₁ hs₁ => ?_)
  replace hz₁ : IsZip h₁ z TI TO .ellipsis := hz₁
  refine wpAny_bind ?_
  simp only [List.zipIdx_cons, List.zipIdx_nil, List.forIn_cons, List.forIn_nil]
  refine wpAny_bind (wpAny_bind (wpAny_onRaise ?_))
  show wpAny _ _ (Builtin.SmallTypes.nextOf (.ref i1) >>= _) _ _ _
  refine wpAny_bind (first h₁ _ _ hz₁ (fun c o hc e => hs₁.extBut _ _ hc e) fun e s2 hN he kz => ?_)
  obtain ⟨oe, hoe, hce⟩ := he
  have hz₂ : IsZip s2.heap z TI TO .ellipsis := kz _ hz₁
  have hez : e ≠ z := fun x => by subst x; rw [hz₂] at hoe; cases hoe; simp at hce
  refine wpAny_setField_rec hz₂ (by simp) fun h₃ _ hs₃ => hE s2 h₃ e hN (fun c o c1 x => hs₃.extBut _ _ c1 x) ⟨oe, hs₃.extBut _ _ hez hoe, hce⟩
theorem pyNext_zipN {z TI TO : Addr} {Q : Option Value → Shared → Prop} (hz : IsZip s.heap z TI TO .none)
    (h : ∀ (E1 : Value → Shared → Prop), (∀ e s1, (∃ o, s1.heap.get? e = some o ∧ o.cls = .type "StopIteration") → Q none s1 → E1 (.ref e) s1) → wpAny (model P w) A.in1 (Builtin.«zip.__next__» ⟨[.ref z], []⟩) (fun fin s' => ∃ v, fin = .done (.ret v) ∧ Q (some v) s') E1 s) :
    wpAny (model P w) A (pyNext (.ref z)) Q E s := by
  have hT : s.TypeIs (.ref z) "zip" := ⟨_, hz, rfl⟩
  unfold pyNext
  refine wpAny_bind (wpAny_attempt (wpAny_callSpecial?_slot (name := Str.ofString "__next__") hT F.slot_zip_next
    (wpAny_call_entry F.slot_zip_next hT F.entry_zip_next (wpAny_mono (h _ fun e s1 he q => ?_) (fun fin s' q => ?_) fun _ _ q => q) (F.args_zip_next_1 _))))
  · obtain ⟨o, ho, hc⟩ := he
    exact wpAny_bind (wpAny_isInstance (T := "StopIteration") (b := true) ⟨o, ho, hc⟩ isSubtype_stop (wpAny_pure q))
  · obtain ⟨v, rfl, q⟩ := q
    exact ⟨v, rfl, wpAny_pure q⟩
end
end Z
set_option Elab.async false
set_option linter.all false
set_option maxRecDepth 100000
set_option maxHeartbeats 1000000
/-! for target in zip(o.m(), l): body -/
namespace Z
open PySem PySem.Spec L2 GenW
open PyProof.Rows hiding St
section
variable {X : Cx} {C : Addr} {fl : Str} {e : Expr} {tw : St → Hp → (Addr → Addr → List V → Hp → Prop) → Prop}
end
section
variable {X : Cx} {T : List (Addr × Str)} {C : Addr} {m fl : Str} {ta : TEp} {pos : Pos}
theorem zipP_len {xs ys : List PV} (h : xs.length ≤ ys.length) : (zipP xs ys).length = xs.length := by
  unfold zipP
  rw [List.length_zipWith]; omega
end
end Z
set_option Elab.async false
set_option linter.all false
set_option maxRecDepth 100000
/-! divmod by a wide divisor; x is True, x is False -/
namespace Z
open PySem PySem.Spec L2
open PyProof.Rows hiding St
section
variable {X : Cx}
theorem call_divmodW : CallR X (.builtin "divmod") (fun xs H Q => ∃ i j, xs = [.int i, .int j] ∧ CDivW i j ∧ ∀ p, H p = none → Q (.ref p) (upd H p (.tup [.int (i / j), .int (i % j)]))) := by
  intro pins s σ H xs us Q I r h
  obtain ⟨i, j, rfl, ⟨h1, h2⟩, q⟩ := h
  obtain ⟨u, w', rfl, ⟨t, rfl⟩, ⟨t', rfl⟩⟩ := vals2 r
  refine divmod_int (by omega) ?_ (.inl (PyProof.noPylong_of_log2 h2))
  rw [Int.fdiv_eq_ediv_of_nonneg i (by omega), Int.fmod_eq_emod_of_nonneg i (by omega)]
  have hn : H s.heap.objs.size = none := I.hok.fresh (Nat.le_refl _)
  refine ⟨.ref s.heap.objs.size, _, ?_, rfl, q _ hn⟩
  refine I.laid (fun b o e => Heap.get?_push_of_some _ e) (Nat.le_refl _) ⟨by simp only [List.length_cons, List.length_nil]; rw [sizeLine_eq]; decide, [.int (i / j) s.toks, .int (i % j) (s.toks + 1)], .cons ⟨_, rfl⟩ (.cons ⟨_, rfl⟩ .nil), ?_⟩
  exact ⟨_, Heap.get?_push_size s.heap rfl, rfl, 0, rfl⟩
def rDivmodW : R1p := fun ps P => match ps with
  | [.int i, .int j] => CDivW i j ∧ P (.tup [.int (i / j), .int (i % j)])
  | _ => False
theorem zc_divmodW : CallR X (.builtin "divmod") (r1 X.K rDivmodW) := by
  refine CallR.weak (call_divmodW (X := X)) fun xs H Q h => ?_
  obtain ⟨O, ps, P, tr, hx, h, k⟩ := h
  unfold rDivmodW at h
  split at h
  · obtain ⟨v, w, rfl, r, r'⟩ := hx.two
    cases r.int_; cases r'.int_
    exact ⟨_, _, rfl, h.1, fun p hp => k.newT h.2 tr (.cons rep_int (.cons rep_int .nil)) hp⟩
  · cases h
theorem q_divmodW {i j : Int} {P : PV → Prop} (c : CDivW i j) (h : P (.tup [.int (i / j), .int (i % j)])) : rDivmodW [.int i, .int j] P := ⟨c, h⟩
theorem cdivW {i j : Int} (h : 0 < j) (h' : j < 10 ^ 40) : CDivW i j := wide_div (b := 200) h (by
  have : (10 : Int) ^ 40 < 2 ^ 200 := by decide
  omega) (by decide) (by decide)
def rIsT (neg : Bool) : R2p := fun x y P => match x, y with
  | .bl a, .bl b => P (.bl (if neg then !decide (a = b) else decide (a = b)))
  | _, _ => False
theorem zo_isT : OpR X (compareOp .Is) (r2 X.K (rIsT false)) := by
  refine OpR.weak (op_isBl (X := X)) fun x y H Q h => ?_
  obtain ⟨O, px, py, P, tr, hx, hy, h, k⟩ := h
  unfold rIsT at h
  split at h
  · exact ⟨_, _, hx.bl_, hy.bl_, k.bl (by simpa using h)⟩
  · cases h
end
end Z
set_option Elab.async false
set_option linter.all false
set_option maxRecDepth 100000
namespace Z
open PySem PySem.Spec L2
open PyProof.Rows hiding St
/-! ### values of the program -/
def Kn (K : PySem.W.Frag) (x : PV) : Prop := (tyN x).isSome = true ∨ ∃ C fs, x = .ins C fs ∧ ClsT K C
def abc : Str := ("abcdefghijklmnopqrstuvwxyz" : Str)
def isNm : PV → Bool
  | .str z => decide (1 ≤ z.length) && (decide (z.length ≤ 8) && z.cps.toList.all fun c => decide (c ∈ abc.cps.toList))
  | _ => false
abbrev Trip := Str × Int × Int
def rowP (r : Trip) : PV := .tup [.str r.1, .int r.2.1, .int r.2.2]
def rowsP (rs : List Trip) : PV := .tup (rs.map rowP)
structure Rw (rs : List Trip) : Prop where
  len : rs.length ≤ 24
  each : ∀ r ∈ rs, isNm (.str r.1) = true ∧ 0 ≤ r.2.1 ∧ r.2.1 < r.2.2
  asc : rs.Pairwise fun a b => a.1.cps.toList < b.1.cps.toList
/-! ### promises -/
abbrev PrP := PySem.W.Frag → Addr → SpP
def sp_law_cell : PrP := fun K _ args P => ∃ ns k, args = [.scr ns, .int k] ∧ 0 ≤ k ∧ k < 100 ∧ ∀ c, P (.int c)
def sp_law_pool : PySem.W.Frag → Addr → SpF := fun K _ args P => ∃ c, args = [.int c] ∧ ∀ s d, 0 ≤ s → s < 1000000007 → 0 ≤ d → P [.int s, .int d, .int 0]
def Pool (o : Ow) : Prop := ∃ s d c, o = .l [.int s, .int d, .int c] ∧ 0 ≤ s ∧ s < 1000000007 ∧ 0 ≤ d
abbrev PrR := PySem.W.Frag → Addr → SpR
def sp_law_draw : PrR := fun K _ o args P => ∃ m : Int, Pool o ∧ args = [.int m] ∧ 0 < m ∧ m < 10 ^ 40 ∧ ∀ o' (k : Int), Pool o' → 0 ≤ k → k < m → P (.int k) o'
def Nms (ws : List Str) : Prop := (∀ w ∈ ws, isNm (.str w) = true) ∧ ws.Nodup
def sp_law_words : PrR := fun K _ o args P => ∃ m : Int, Pool o ∧ args = [.int m] ∧ 0 ≤ m ∧ m ≤ 24 ∧ ∀ o' ws, Pool o' → ws.length = m.toNat → Nms ws → P (.lst (ws.map .str)) o'
/-! ### readings -/
def ts_law_cell (K : PySem.W.Frag) (CLine : Addr) : TSp := tSeqP (tIfSP (tBlP (tOpP rLt (tVarP 1) (tCBP rLen (tConsP (tVarP 0) (tNilP))))) (tRetP (tOpP rIxP (tVarP 0) (tVarP 1))) (tNextP)) (tSeqP (tSetP 2 (tOpP rMod (tOpP rMulA (tConP (.int 50021)) (tOpP rAdd (tOpP rAdd (tOpP rMulA (tVarP 1) (tVarP 1)) (tOpP rMulA (tConP (.int 7)) (tVarP 1))) (tConP (.int 3)))) (tConP (.int 1000000007)))) (tSeqP (tForP (iListP (tSliceP (tVarP 0) (tNoPartP) (tPartP (tConP (.int 3))))) (gNameP 3) (tSetP 2 (tOpP rMod (tOpP rAdd (tOpP rMulA (tVarP 2) (tConP (.int 30011))) (tVarP 3)) (tConP (.int 1000000007))))) (tRetP (tVarP 2))))
def ts_law_pool (K : PySem.W.Frag) (CLine : Addr) : TFp := tSeqFP (tSetP 1 (tConP (.int 0))) (tSeqFP (tIfSP (tOrP (tBlP (tOpP rLt (tVarP 0) (tConP (.int 0)))) (tBlP (tOpP rGe (tVarP 0) (tOpP rPow (tConP (.int 10)) (tConP (.int 18)))))) (tSetP 1 (tCBP rAbs (tConsP (tVarP 0) (tNilP)))) (tNextP)) (tLstFP (tConsP (tOpP rMod (tVarP 0) (tConP (.int 1000000007))) (tConsP (tVarP 1) (tConsP (tConP (.int 0)) (tNilP))))))
def ts_law_draw (K : PySem.W.Frag) (CLine : Addr) : TSp := tSeqP (tAsgP (tOpP rAdd (tIxOP 0 (tConP (.int 2))) (tConP (.int 1))) (gSubP 0 (tConP (.int 2)))) (tSeqP (tSetP 2 (tIxOP 0 (tConP (.int 0)))) (tSeqP (tAsgP (tOpP rMod (tOpP rAdd (tOpP rAdd (tOpP rMulA (tVarP 2) (tOpP rAdd (tOpP rMod (tVarP 2) (tConP (.int 46007))) (tConP (.int 20011)))) (tOpP rMulA (tConP (.int 60013)) (tIxOP 0 (tConP (.int 2))))) (tConP (.int 5))) (tConP (.int 1000000007))) (gSubP 0 (tConP (.int 0)))) (tSeqP (tIfSP (tBlP (tOpP rGt (tIxOP 0 (tConP (.int 1))) (tConP (.int 0)))) (tSeqP (tAsgP (tCBP rDivmodW (tConsP (tIxOP 0 (tConP (.int 1))) (tConsP (tVarP 1) (tNilP)))) (gTupP 2 (gConsP (gSubP 0 (tConP (.int 1))) (gConsP (gNameP 3) (gNilP))))) (tRetP (tVarP 3))) (tNextP)) (tRetP (tOpP rMod (tOpP rDiv (tIxOP 0 (tConP (.int 0))) (tConP (.int 32))) (tVarP 1))))))
def ts_law_words (K : PySem.W.Frag) (CLine : Addr) : TSp := tSeqP (tSetP 2 (tConP (.str ("abcdefghijklmnopqrstuvwxyz" : Str)))) (tSeqP (tSetP 3 (tLstP (tConsP (tConP (.str ("book" : Str))) (tConsP (tConP (.str ("cancel" : Str))) (tConsP (tConP (.str ("exchange" : Str))) (tConsP (tConP (.str ("shift" : Str))) (tConsP (tConP (.str ("seats" : Str))) (tConsP (tConP (.str ("undo" : Str))) (tConsP (tConP (.str ("show" : Str))) (tConsP (tConP (.str ("line" : Str))) (tConsP (tConP (.str ("count" : Str))) (tConsP (tConP (.str ("number" : Str))) (tConsP (tConP (.str ("load" : Str))) (tConsP (tConP (.str ("trip" : Str))) (tNilP))))))))))))))) (tSeqP (tSetP 3 (tOpP rAdd (tVarP 3) (tLstP (tConsP (tConP (.str ("none" : Str))) (tConsP (tConP (.str ("cut" : Str))) (tConsP (tConP (.str ("overfull" : Str))) (tConsP (tConP (.str ("a" : Str))) (tConsP (tConP (.str ("b" : Str))) (tConsP (tConP (.str ("x" : Str))) (tConsP (tConP (.str ("plan" : Str))) (tConsP (tConP (.str ("route" : Str))) (tConsP (tConP (.str ("fixed" : Str))) (tConsP (tConP (.str ("full" : Str))) (tConsP (tConP (.str ("goal" : Str))) (tConsP (tConP (.str ("name" : Str))) (tNilP)))))))))))))))) (tSeqP (tAsgP (tTupP (tConsP (tCallRP 0 (sp_law_draw K CLine) (tConsP (tConP (.int 3)) (tNilP))) (tConsP (tCallRP 0 (sp_law_draw K CLine) (tConsP (tConP (.int 24)) (tNilP))) (tNilP)))) (gTupP 2 (gConsP (gNameP 4) (gConsP (gNameP 5) (gNilP))))) (tSeqP (tIfSP (tBlP (tOpP (rEqP false) (tVarP 4) (tConP (.int 0)))) (tRetP (tValP (tLcP (iRng1P (tVarP 1)) (gNameP 8) (tYesP) (tOpP rIxP (tVarP 3) (tOpP rMod (tOpP rAdd (tVarP 5) (tOpP rMulA (tConP (.int 5)) (tVarP 8))) (tConP (.int 24)))) [8]))) (tNextP)) (tSeqP (tIfSP (tBlP (tOpP (rEqP false) (tVarP 4) (tConP (.int 1)))) (tRetP (tValP (tLcP (iRng1P (tVarP 1)) (gNameP 8) (tYesP) (tOpP rMulA (tOpP rIxP (tVarP 2) (tOpP rMod (tOpP rAdd (tVarP 5) (tOpP rMulA (tConP (.int 7)) (tVarP 8))) (tConP (.int 26)))) (tOpP rAdd (tConP (.int 1)) (tOpP rMod (tVarP 8) (tConP (.int 8))))) [8]))) (tNextP)) (tSeqP (tSetP 6 (tJoinP (tConP (.str ("" : Str))) (tValP (tLcP (iRng1P (tCallRP 0 (sp_law_draw K CLine) (tConsP (tConP (.int 8)) (tNilP)))) (gNameP 8) (tYesP) (tOpP rIxP (tVarP 2) (tCallRP 0 (sp_law_draw K CLine) (tConsP (tConP (.int 26)) (tNilP)))) [8])))) (tSeqP (tSetP 7 (tCallRP 0 (sp_law_draw K CLine) (tConsP (tOpP rAdd (tCBP rLen (tConsP (tVarP 6) (tNilP))) (tConP (.int 1))) (tNilP)))) (tRetP (tValP (tLcP (iRng1P (tVarP 1)) (gNameP 8) (tYesP) (tOpP rAdd (tOpP rAdd (tSliceP (tVarP 6) (tNoPartP) (tPartP (tVarP 7))) (tOpP rIxP (tVarP 2) (tOpP rMod (tOpP rAdd (tVarP 5) (tOpP rMulA (tConP (.int 5)) (tVarP 8))) (tConP (.int 26))))) (tSliceP (tVarP 6) (tPartP (tVarP 7)) (tNoPartP))) [8]))))))))))
/-! lengths -/
section
variable {K : PySem.W.Frag} {C : Addr} {args : List PV} {P : PV → Prop} {PR : PV → Ow → Prop} {PF : List PV → Prop} {o : Ow}
theorem len_law_cell (h : sp_law_cell K C args P) : args.length = 2 := by
  unfold sp_law_cell at h
  first | (obtain ⟨_, rfl, _⟩ := h; rfl) | (obtain ⟨_, _, rfl, _⟩ := h; rfl)
theorem len_law_pool (h : sp_law_pool K C args PF) : args.length = 1 := by
  unfold sp_law_pool at h
  first | (obtain ⟨_, rfl, _⟩ := h; rfl) | (obtain ⟨_, _, rfl, _⟩ := h; rfl)
theorem len_law_draw (h : sp_law_draw K C o args PR) : args.length = 1 := by
  unfold sp_law_draw at h
  first | (obtain ⟨_, _, rfl, _⟩ := h; rfl) | (obtain ⟨_, _, _, rfl, _⟩ := h; rfl)
theorem len_law_words (h : sp_law_words K C o args PR) : args.length = 1 := by
  unfold sp_law_words at h
  first | (obtain ⟨_, _, rfl, _⟩ := h; rfl) | (obtain ⟨_, _, _, rfl, _⟩ := h; rfl)
end
end Z
set_option Elab.async false
set_option linter.all false
set_option maxRecDepth 100000
namespace Z
open PySem PySem.Spec L2
open PyProof.Rows hiding St
section
variable {K : PySem.W.Frag} {C : Addr} {args : List PV} {P : PV → Prop} {PR : PV → Ow → Prop} {PF : List PV → Prop} {o : Ow}
theorem rIsI_ty {x : PV} {n : String} {Q : PV → Prop} : rIsI K [x, .raw (.ty n)] Q = (match tyN x with
    | some t => ∃ b, kitB t n = some b ∧ Q (.bl b)
    | none => match x with
      | .ins C _ => ClsT K C ∧ n ∈ ["int", "bool", "str", "tuple", "list", "dict"] ∧ Q (.bl false)
      | _ => False) := rfl
theorem isi_ty {x : PV} {n : String} {Q : PV → Prop} (h : Kn K x) (hn : n ∈ ["int", "bool", "str", "tuple", "list", "dict"]) (q : ∀ b, (∀ t, tyN x = some t → kitB t n = some b) → (tyN x = none → b = false) → Q (.bl b)) : rIsI K [x, .raw (.ty n)] Q := by
  rw [rIsI_ty]
  split
  · rename_i t e
    have : ∃ b, kitB t n = some b := by
      have ht : t ∈ ["NoneType", "int", "bool", "str", "tuple", "list", "dict"] := by cases x <;> simp [tyN] at e <;> subst e <;> decide
      simp only [List.mem_cons, List.not_mem_nil, or_false] at hn ht
      rcases hn with rfl | rfl | rfl | rfl | rfl | rfl <;> rcases ht with rfl | rfl | rfl | rfl | rfl | rfl | rfl <;> first | exact ⟨true, by decide +kernel⟩ | exact ⟨false, by decide +kernel⟩
    obtain ⟨b, hb⟩ := this
    exact ⟨b, hb, q b (fun t' z => by cases e.symm.trans z; exact hb) fun z => by rw [z] at e; cases e⟩
  · rename_i e
    rcases h with h | ⟨D, fs, rfl, cl⟩
    · rw [e] at h; cases h
    · exact ⟨cl, hn, q false (fun t z => nomatch z) fun _ => rfl⟩
theorem isi_is {x : PV} {n : String} {f : PV → Bool} {Q : PV → Prop} (h : Kn K x) (hn : n ∈ ["int", "bool", "str", "tuple", "list", "dict"]) (hf : ∀ x t, tyN x = some t → kitB t n = some (f x)) (h0 : ∀ x, tyN x = none → f x = false) (q : Q (.bl (f x))) : rIsI K [x, .raw (.ty n)] Q := by
  refine isi_ty h hn fun b h1 h2 => ?_
  cases e : tyN x with
  | some t =>
    have := (h1 t e).symm.trans (hf x t e)
    cases this
    exact q
  | none => rw [h2 e, ← h0 x e]; exact q
def isIb : PV → Bool
  | .int _ => true
  | .bl _ => true
  | _ => false
def isBl : PV → Bool
  | .bl _ => true
  | _ => false
def isSt : PV → Bool
  | .str _ => true
  | _ => false
def isTu : PV → Bool
  | .tup _ => true
  | _ => false
theorem isi_int {x : PV} {Q : PV → Prop} (h : Kn K x) (q : Q (.bl (isIb x))) : rIsI K [x, .raw (.ty "int")] Q :=
  isi_is h (by decide) (fun x t e => by cases x <;> simp [tyN] at e <;> subst e <;> first | (show kitB _ _ = some true; decide +kernel) | (show kitB _ _ = some false; decide +kernel)) (fun x e => by cases x <;> simp [tyN] at e <;> rfl) q
theorem isi_bool {x : PV} {Q : PV → Prop} (h : Kn K x) (q : Q (.bl (isBl x))) : rIsI K [x, .raw (.ty "bool")] Q :=
  isi_is h (by decide) (fun x t e => by cases x <;> simp [tyN] at e <;> subst e <;> first | (show kitB _ _ = some true; decide +kernel) | (show kitB _ _ = some false; decide +kernel)) (fun x e => by cases x <;> simp [tyN] at e <;> rfl) q
theorem isi_str {x : PV} {Q : PV → Prop} (h : Kn K x) (q : Q (.bl (isSt x))) : rIsI K [x, .raw (.ty "str")] Q :=
  isi_is h (by decide) (fun x t e => by cases x <;> simp [tyN] at e <;> subst e <;> first | (show kitB _ _ = some true; decide +kernel) | (show kitB _ _ = some false; decide +kernel)) (fun x e => by cases x <;> simp [tyN] at e <;> rfl) q
theorem isi_tuple {x : PV} {Q : PV → Prop} (h : Kn K x) (q : Q (.bl (isTu x))) : rIsI K [x, .raw (.ty "tuple")] Q :=
  isi_is h (by decide) (fun x t e => by cases x <;> simp [tyN] at e <;> subst e <;> first | (show kitB _ _ = some true; decide +kernel) | (show kitB _ _ = some false; decide +kernel)) (fun x e => by cases x <;> simp [tyN] at e <;> rfl) q
theorem Kn.i {i : Int} : Kn K (.int i) := .inl rfl
theorem Kn.s {i : Str} : Kn K (.str i) := .inl rfl
theorem Kn.t {xs : List PV} : Kn K (.tup xs) := .inl rfl
end
end Z
set_option Elab.async false
set_option linter.all false
set_option maxRecDepth 100000
namespace Z
open PySem PySem.Spec L2
open PyProof.Rows hiding St
/-! ### the rules on values, as they are asked -/
section
variable {K : PySem.W.Frag} {P : PV → Prop} {i j : Int} {x y : PV} {xs ys : List PV} {a b : Str} {η : EP'} {Q : PV → EP' → Prop} {R : EP' → Prop} {n : Nat}
theorem q_add (h : P (.int (i + j))) : rAdd (.int i) (.int j) P := h
theorem q_addS (l : a.length + b.length ≤ sizeLine) (h : P (.str (a ++ b))) : rAdd (.str a) (.str b) P := ⟨l, h⟩
theorem q_addL (l : xs.length + ys.length ≤ sizeLine) (h : P (.lst (xs ++ ys))) : rAdd (.lst xs) (.lst ys) P := ⟨l, h⟩
theorem q_sub (h : P (.int (i - j))) : rSub (.int i) (.int j) P := h
theorem q_mul (c : CMul i j) (h : P (.int (i * j))) : rMulA (.int i) (.int j) P := .inl ⟨c, h⟩
theorem q_mulS (h1 : 1 ≤ j) (h2 : j ≤ 1000) (l : a.length ≤ 1000) (h : P (.str (strRep a j.toNat))) : rMulA (.str a) (.int j) P := .inr ⟨h1, h2, l, h⟩
theorem q_div (c : CDiv i j) (h : P (.int (i / j))) : rDiv (.int i) (.int j) P := ⟨c, h⟩
theorem q_mod (c : 0 < j) (h : P (.int (i % j))) : rMod (.int i) (.int j) P := ⟨c, h⟩
theorem q_pow (c : CPow i j) (h : P (.int (i ^ j.toNat))) : rPow (.int i) (.int j) P := ⟨c, h⟩
theorem q_lt (h : P (.bl (decide (i < j)))) : rLt (.int i) (.int j) P := h
theorem q_gt (h : P (.bl (decide (j < i)))) : rGt (.int i) (.int j) P := h
theorem q_ge (h : P (.bl (decide (j ≤ i)))) : rGe (.int i) (.int j) P := h
theorem q_le (h : P (.bl (decide (i ≤ j)))) : rLe (.int i) (.int j) P := h
theorem beq_int : (i == j) = decide (i = j) := by by_cases h : i = j <;> simp [h]
theorem q_eq (h : P (.bl (decide (i = j)))) : rEqP false (.int i) (.int j) P := ⟨.int i, .int j, rfl, rfl, rfl, rfl, by
  have e : PyData.eqv (.int i) (.int j) = decide (i = j) := by rw [show PyData.eqv (.int i) (.int j) = (i == j) by simp [PyData.eqv]]; exact beq_int
  simpa [e] using h⟩
theorem q_ne (h : P (.bl (decide (i ≠ j)))) : rEqP true (.int i) (.int j) P := ⟨.int i, .int j, rfl, rfl, rfl, rfl, by
  have e : PyData.eqv (.int i) (.int j) = decide (i = j) := by rw [show PyData.eqv (.int i) (.int j) = (i == j) by simp [PyData.eqv]]; exact beq_int
  simpa [e] using h⟩
theorem q_inS {c : Nat} (h : P (.bl (decide (c ∈ b.cps.toList)))) : rInS false (.str ⟨#[c]⟩) (.str b) P := ⟨c, rfl, by simpa using h⟩
theorem q_lenS (l : a.length ≤ sizeLine) (h : P (.int a.length)) : rLen [.str a] P := ⟨l, h⟩
theorem q_len (h : P (.int xs.length)) : rLen [.lst xs] P := h
theorem q_lenT (h : P (.int xs.length)) : rLen [.tup xs] P := h
theorem q_lenC {ns : List Int} (h : P (.int ns.length)) : rLen [.scr ns] P := h
theorem q_ix (e : atI xs i = some x) (h : P x) : rIxP (.lst xs) (.int i) P := ⟨x, e, h⟩
theorem q_ixT (e : atI xs i = some x) (h : P x) : rIxP (.tup xs) (.int i) P := ⟨x, e, h⟩
theorem q_ixC {ns : List Int} (e : atI ns i = some j) (h : P (.int j)) : rIxP (.scr ns) (.int i) P := ⟨j, e, h⟩
theorem q_ixS {c : Nat} (l : a.length ≤ sizeLine) (e : atI a.cps.toList i = some c) (h : P (.str ⟨#[c]⟩)) : rIxP (.str a) (.int i) P := ⟨l, c, e, h⟩
theorem q_abs (h : P (.int (if i < 0 then -i else i))) : rAbs [.int i] P := h
theorem q_all {bs : List Bool} (e : blsOf xs = some bs) (h : P (.bl (bs.all id))) : rAllP [.lst xs] P := ⟨bs, e, h⟩
theorem q_ite {p : Prop} [Decidable p] {A B : Prop} (h1 : p → A) (h2 : ¬ p → B) : if decide p = true then A else B := by
  by_cases h : p
  · rw [if_pos (decide_eq_true h)]; exact h1 h
  · rw [if_neg (by simp [h])]; exact h2 h
theorem q_iteT {A B : Prop} (h : A) : if true = true then A else B := h
theorem q_iteF {A B : Prop} (h : B) : if false = true then A else B := h
theorem q_it {A B : Prop} [Decidable True] (h : A) : if True then A else B := by rw [if_pos trivial]; exact h
theorem q_ixO {s : Nat} (e : η[s]? = some (.ow (.l xs))) (e1 : atI xs i = some x) (h : Q x η) : tIxOP s (fun η P => P (.int i) η) η Q := by
  refine ⟨⟨_, e⟩, ?_⟩
  show (match η[s]? with
  | some (.ow (.l xs)) => ∃ kk v, PV.int i = .int kk ∧ atI xs kk = some v ∧ Q v η
  | _ => False)
  rw [e]
  exact ⟨i, x, rfl, e1, h⟩
theorem q_setO {s : Nat} (e : η[s]? = some (.ow (.l xs))) (e1 : ixN xs.length i = some n) (h : R (η.set s (.ow (.l (xs.set n x))))) : gSubP s (fun η P => P (.int i) η) x η R := by
  refine ⟨⟨_, e⟩, ?_⟩
  show (match η[s]? with
  | some (.ow (.l xs)) => ∃ kk j, PV.int i = .int kk ∧ ixN xs.length kk = some j ∧ R (η.set s (.ow (.l (xs.set j x))))
  | _ => False)
  rw [e]
  exact ⟨i, n, rfl, e1, h⟩
theorem q_draw {s : Nat} {o : Ow} {C : Addr} {m : Int} {ta : TAp} (e : η[s]? = some (.ow o)) (ha : ta = fun η P => P [.int m] η) (hp : Pool o) (h0 : 0 < m) (h1 : m < 10 ^ 40) (h : ∀ o' (k : Int), Pool o' → 0 ≤ k → k < m → Q (.int k) (η.set s (.ow o'))) : tCallRP s (sp_law_draw K C) ta η Q := by
  subst ha
  refine ⟨⟨_, e⟩, ?_⟩
  show (match η[s]? with
  | some (.ow o) => sp_law_draw K C o [.int m] fun z o' => Q z (η.set s (.ow o'))
  | _ => False)
  rw [e]
  exact ⟨m, hp, rfl, h0, h1, fun o' k p a b => h o' k p a b⟩
/-! the readings, step by step -/
variable {D : EndsP} {t u : TSp} {te ta tb : TEp} {tx : TAp} {tf : TFp} {s : Nat} {o : Ow} {r : R2p} {r1 : R1p} {tc td : TTp} {QA : List PV → EP' → Prop} {QB : Bool → EP' → Prop} {g : TGp} {ti : TIp}
theorem w_seq (h : t { D with nx := fun η' => u D η' } η) : tSeqP t u D η := h
theorem w_set (h : te η fun x η1 => D.nx (η1.set s (.va x))) : tSetP s te D η := h
theorem w_if (h : tc η fun b η1 => if b = true then t D η1 else u D η1) : tIfSP tc t u D η := h
theorem w_ret (h : te η D.rt) : tRetP te D η := h
theorem w_next (h : D.nx η) : tNextP D η := h
theorem w_asg (h : te η fun x η1 => g x η1 D.nx) : tAsgP te g D η := h
theorem w_con (h : Q x η) : tConP x η Q := h
theorem w_var (e : η[s]? = some (.va x)) (h : Q x η) : tVarP s η Q := by unfold tVarP; rw [e]; exact h
theorem w_varK {x : PV} (e : η[s]? = some (.va x)) (h : Q (wkV x) η) : tVarKP s η Q := by unfold tVarKP; rw [e]; exact h
theorem w_varO (e : η[s]? = some (.ow o)) (h : Q (frz o) (η.set s (.va (frz o)))) : tVarP s η Q := by unfold tVarP; rw [e]; exact h
theorem w_op (h : ta η fun x η1 => tb η1 fun y η2 => r x y fun z => Q z η2) : tOpP r ta tb η Q := h
theorem w_cb (h : tx η fun xs η1 => r1 xs fun z => Q z η1) : tCBP r1 tx η Q := h
theorem w_nil (h : QA [] η) : tNilP η QA := h
theorem w_cons (h : te η fun x η1 => tx η1 fun xs η2 => QA (x :: xs) η2) : tConsP te tx η QA := h
theorem w_tup (h : tx η fun xs η1 => xs.length ≤ sizeLine ∧ Q (.tup xs) η1) : tTupP tx η Q := h
theorem w_lst (h : tx η fun xs η1 => xs.length ≤ sizeLine ∧ Q (.lst xs) η1) : tLstP tx η Q := h
theorem w_lstF (h : tx η fun xs η1 => xs.length ≤ sizeLine ∧ QA xs η1) : tLstFP tx η QA := h
theorem w_val (h : tf η fun xs η1 => Q (.lst xs) η1) : tValP tf η Q := h
theorem w_bl (h : te η fun x η1 => match x with | .bl b => QB b η1 | _ => False) : tBlP te η QB := h
theorem w_or (h : tc η fun c η1 => if c = true then QB true η1 else td η1 QB) : tOrP tc td η QB := h
theorem w_and (h : tc η fun c η1 => if c = true then td η1 QB else QB false η1) : tAndP tc td η QB := h
theorem w_not (h : tc η fun c η1 => QB (!c) η1) : tNotP tc η QB := h
theorem w_ife (h : tc η fun c η1 => if c = true then ta η1 Q else tb η1 Q) : tIfP tc ta tb η Q := h
theorem w_call {sp : SpP} {dps : List PV} (h : tx η fun args η1 => sp (args ++ dps) fun z => Q z η1) : tCallP sp dps tx η Q := h
theorem w_lc {tt : TTp} {vs : List Nat} (h : ti η fun xs η1 => ∃ Inv : Nat → List PV → EP' → Prop, Inv 0 [] (wipeP η1 vs) ∧
  (∀ i x acc η2, xs[i]? = some x → Inv i acc η2 → g x (wipeP η2 vs) fun η3 => tt η3 fun b η4 => if b = true then te η4 fun y η5 => acc.length < sizeLine ∧ Inv (i + 1) (acc ++ [y]) (wipeP η5 vs) else Inv (i + 1) acc (wipeP η4 vs)) ∧
  (∀ acc η2, Inv xs.length acc η2 → QA acc η2)) : tLcP ti g tt te vs η QA := h
theorem w_for (h : ti η fun xs η1 => ∃ Inv : Nat → EP' → Prop, Inv 0 η1 ∧
  (∀ i x η2, xs[i]? = some x → Inv i η2 → g x η2 fun η3 => t { D with nx := Inv (i + 1), ct := Inv (i + 1), bk := D.nx } η3) ∧ (∀ η2, Inv xs.length η2 → D.nx η2)) : tForP ti g t D η := h
theorem w_rng1 (h : te η fun x η1 => match x with
  | .int j => -(2 ^ 62) ≤ j ∧ j < 2 ^ 62 ∧ QA (rangeP 0 j.toNat) η1
  | _ => False) : iRng1P te η QA := h
theorem rangeP_get {lo : Int} {n i : Nat} {x : PV} (h : (rangeP lo n)[i]? = some x) : i < n ∧ x = .int (lo + i) := by
  unfold rangeP at h
  rw [List.getElem?_map] at h
  by_cases hi : i < n
  · rw [List.getElem?_range hi] at h
    cases h
    exact ⟨hi, rfl⟩
  · rw [List.getElem?_eq_none (by simpa using hi)] at h; cases h
theorem rangeP_len {lo : Int} {n : Nat} : (rangeP lo n).length = n := by simp [rangeP]
theorem sz1 {a : PV} : [a].length ≤ sizeLine := by show 1 ≤ sizeLine; decide
theorem sz2 {a b : PV} : [a, b].length ≤ sizeLine := by show 2 ≤ sizeLine; decide
theorem sz3 {a b c : PV} : [a, b, c].length ≤ sizeLine := by show 3 ≤ sizeLine; decide
theorem w_gname {R : EP' → Prop} {x : PV} {η : EP'} {s : Nat} (h : R (η.set s (.va x))) : gNameP s x η R := h
theorem w_yes {QB : Bool → EP' → Prop} {η : EP'} (h : QB true η) : tYesP η QB := h
theorem w_join {ta tb : TEp} {η : EP'} {Q : PV → EP' → Prop} (h : ta η fun x η1 => (∃ z, x = .str z) ∧ tb η1 fun y η2 => match x, y with
  | .str z, .lst xs => ∃ ys, strsOf xs = some ys ∧ (ys.map (·.length)).sum + ys.length * z.length ≤ 16777216 ∧ Q (.str (Txt.join z ys)) η2
  | _, _ => False) : tJoinP ta tb η Q := h
theorem w_slice {te : TEp} {tl th : TOp} {η : EP'} {Q : PV → EP' → Prop} (h : te η fun x η1 => tl η1 fun l η2 => th η2 fun u η3 => rSlP x l u fun z => Q z η3) : tSliceP te tl th η Q := h
theorem w_nop {η : EP'} {P : Option Int → EP' → Prop} (h : P none η) : tNoPartP η P := h
theorem w_part {te : TEp} {η : EP'} {P : Option Int → EP' → Prop} (h : te η fun x η1 => match x with
  | .int i => P (some i) η1
  | _ => False) : tPartP te η P := h
theorem q_slS {z : Str} {lo hi : Option Int} {P : PV → Prop} (l : z.length ≤ sizeLine) (h : P (.str (cutS z lo hi))) : rSlP (.str z) lo hi P := ⟨l, h⟩
def callM (s : Nat) (sr : SpR) (args : List PV) (η : EP') (Q : PV → EP' → Prop) : Prop := match η[s]? with
  | some (.ow o) => sr o args fun z o' => Q z (η.set s (.ow o'))
  | _ => False
theorem w_callR {s : Nat} {sr : SpR} {tx : TAp} {η : EP'} {Q : PV → EP' → Prop} {o : Ow} (e : η[s]? = some (.ow o)) (h : tx η fun args η1 => callM s sr args η1 Q) : tCallRP s sr tx η Q := ⟨⟨o, e⟩, h⟩
theorem q_callM {s : Nat} {sr : SpR} {args : List PV} {η : EP'} {Q : PV → EP' → Prop} {o : Ow} (e : η[s]? = some (.ow o)) (h : sr o args fun z o' => Q z (η.set s (.ow o'))) : callM s sr args η Q := by unfold callM; rw [e]; exact h
def tStrs : List Str → TAp
  | [] => tNilP
  | w :: ws => tConsP (tConP (.str w)) (tStrs ws)
theorem w_strs {QA : List PV → EP' → Prop} {η : EP'} : ∀ {ws : List Str}, QA (ws.map .str) η → tStrs ws η QA
  | [], h => h
  | w :: ws, h => w_strs (ws := ws) (QA := fun xs η2 => QA (.str w :: xs) η2) h
end
end Z
set_option Elab.async false
set_option linter.all false
set_option maxRecDepth 100000
namespace Z
open PySem PySem.Spec L2
open PyProof.Rows hiding St
section
variable {K : PySem.W.Frag} {C : Addr} {args : List PV} {P : PV → Prop} {PR : PV → Ow → Prop} {PF : List PV → Prop} {o : Ow}
theorem cmul_l {i j : Int} (h : 0 ≤ i) (h' : i < 1000000007) : CMul i j := .inl ⟨by omega, by omega⟩
theorem mod_lo {i : Int} : 0 ≤ i % 1000000007 := Int.emod_nonneg _ (by decide)
theorem mod_hi {i : Int} : i % 1000000007 < 1000000007 := Int.emod_lt_of_pos _ (by decide)
theorem rd_law_draw (h : sp_law_draw K C o args PR) : ts_law_draw K C { nx := fun η' => ∃ o', η'[0]? = some (Sl.ow o') ∧ PR .non o', rt := fun x η' => ∃ o', η'[0]? = some (Sl.ow o') ∧ PR x o' } (startR 4 o args) := by
  obtain ⟨m, ⟨s, d, c, rfl, h1, h2, h3⟩, rfl, m1, m2, hp⟩ := h
  have e : startR 4 (.l [.int s, .int d, .int c]) [.int m] = [.ow (.l [.int s, .int d, .int c]), .va (.int m), .no, .no] := rfl
  simp only [ts_law_draw, e, tLcP, tForP, iStrP, iListP, iTupP, iRng1P, iRng2P, iEnumP, wipeP, tAppP, tJoinP, tSeqP, tRetP, tRetNP, tIfSP, tNextP, tNevP, tSetP, tSetFP, tDropP, tAsgP, gNameP, gNilP, gConsP, gTupP, tAndVP, tNotVP, tOrVP, tCBP, tConsP, tNilP, tVarP, tConP, tBlP, tOrP, tAndP, tNotP, tOpP, tChainP, tCallP, tCallFP, tTupP, tLstP, tLstFP, tValP, tIfP, tNegP, tSliceP, tNoPartP, tPartP, tSeqFP, tYesP, frz, List.getElem?_cons_zero, List.getElem?_cons_succ, List.set_cons_zero, List.set_cons_succ, List.append_nil, List.length_cons, List.length_nil, Nat.zero_add]
  refine q_ixO rfl rfl (q_add (q_setO rfl rfl (q_ixO rfl rfl (q_mod (by decide) (q_add (q_mul (cmul_l h1 h2) ?_))))))
  refine q_ixO rfl rfl (q_mul (.inl ⟨by decide, by decide⟩) (q_add (q_add (q_mod (by decide) (q_setO rfl rfl ?_)))))
  refine q_ixO rfl rfl (q_gt (q_ite (fun hd => ?_) fun hd => ?_))
  · refine q_ixO rfl rfl (q_divmodW (cdivW m1 m2) ⟨rfl, q_setO rfl rfl ⟨rfl, _, rfl, ?_⟩⟩)
    exact hp _ _ ⟨_, _, _, rfl, mod_lo, mod_hi, Int.ediv_nonneg h3 (by omega)⟩ (Int.emod_nonneg _ (by omega)) (Int.emod_lt_of_pos _ m1)
  · refine q_ixO rfl rfl ?_
    refine q_div ⟨by decide, by decide⟩ ?_
    refine q_mod m1 ⟨_, rfl, ?_⟩
    exact hp _ _ ⟨_, _, _, rfl, mod_lo, mod_hi, h3⟩ (Int.emod_nonneg _ (by omega)) (Int.emod_lt_of_pos _ m1)
theorem rd_law_pool (h : sp_law_pool K C args PF) : ts_law_pool K C (startP 2 args) (fun xs _ => PF xs) := by
  obtain ⟨c, rfl, hp⟩ := h
  have e : startP 2 [.int c] = [.va (.int c), .no] := rfl
  simp only [ts_law_pool, e, tLcP, tForP, iStrP, iListP, iTupP, iRng1P, iRng2P, iEnumP, wipeP, tAppP, tJoinP, tSeqP, tRetP, tRetNP, tIfSP, tNextP, tNevP, tSetP, tSetFP, tDropP, tAsgP, gNameP, gNilP, gConsP, gTupP, tAndVP, tNotVP, tOrVP, tCBP, tConsP, tNilP, tVarP, tConP, tBlP, tOrP, tAndP, tNotP, tOpP, tChainP, tCallP, tCallFP, tTupP, tLstP, tLstFP, tValP, tIfP, tNegP, tSliceP, tNoPartP, tPartP, tSeqFP, tYesP, frz, List.getElem?_cons_zero, List.getElem?_cons_succ, List.set_cons_zero, List.set_cons_succ, List.append_nil, List.length_cons, List.length_nil, Nat.zero_add]
  have hz : 10 ≤ sizeLine := by decide
  have key : ∀ d : Int, 0 ≤ d → PF [.int (c % 1000000007), .int d, .int 0] := fun d hd => hp _ _ mod_lo mod_hi hd
  refine q_lt (q_ite (fun hc => ?_) fun hc => ?_)
  · refine q_it ?_
    refine q_abs ?_
    refine q_mod (by decide) ?_
    exact ⟨by omega, key _ (by split <;> omega)⟩
  · refine q_pow ⟨by decide, by decide, by decide⟩ ?_
    refine q_ge (q_ite (fun hd => ?_) fun hd => ?_)
    · refine q_abs ?_
      refine q_mod (by decide) ?_
      exact ⟨by omega, key _ (by split <;> omega)⟩
    · refine q_mod (by decide) ?_
      exact ⟨by omega, key 0 (by decide)⟩
theorem atI_in {α : Type} {xs : List α} {k : Int} (h0 : 0 ≤ k) (h1 : k < xs.length) : ∃ v, atI xs k = some v ∧ xs[k.toNat]? = some v := by
  have h : k.toNat < xs.length := by omega
  refine ⟨xs[k.toNat], ?_, by simp [h]⟩
  have := atI_nat (xs := xs) (j := k.toNat) (v := xs[k.toNat]) (by simp [h])
  rwa [Int.toNat_of_nonneg h0] at this
theorem rd_law_cell (h : sp_law_cell K C args P) : ts_law_cell K C { nx := fun _ => P .non, rt := fun x _ => P x } (startP 4 args) := by
  obtain ⟨ns, k, rfl, hk, hk', hp⟩ := h
  have e : startP 4 [.scr ns, .int k] = [.va (.scr ns), .va (.int k), .no, .no] := rfl
  simp only [ts_law_cell, e, tLcP, tForP, iStrP, iListP, iTupP, iRng1P, iRng2P, iEnumP, wipeP, tAppP, tJoinP, tSeqP, tRetP, tRetNP, tIfSP, tNextP, tNevP, tSetP, tSetFP, tDropP, tAsgP, gNameP, gNilP, gConsP, gTupP, tAndVP, tNotVP, tOrVP, tCBP, tConsP, tNilP, tVarP, tConP, tBlP, tOrP, tAndP, tNotP, tOpP, tChainP, tCallP, tCallFP, tTupP, tLstP, tLstFP, tValP, tIfP, tNegP, tSliceP, tNoPartP, tPartP, tSeqFP, tYesP, frz, List.getElem?_cons_zero, List.getElem?_cons_succ, List.set_cons_zero, List.set_cons_succ, List.append_nil, List.length_cons, List.length_nil, Nat.zero_add]
  refine q_lenC (q_lt (q_ite (fun h1 => ?_) fun h1 => ?_))
  · obtain ⟨v, hv, _⟩ := atI_in (xs := ns) hk h1
    exact q_ixC hv (hp v)
  · refine q_mul (.inr ⟨by omega, by omega⟩) ?_
    refine q_mul (.inr ⟨by omega, by omega⟩) ?_
    refine q_add ?_
    refine q_add ?_
    refine q_mul (.inl ⟨by decide, by decide⟩) ?_
    refine q_mod (by decide) ?_
    refine ⟨fun i η => ∃ (c : Int) (t : Sl), η = [.va (.scr ns), .va (.int k), .va (.int c), t] ∧ 0 ≤ c ∧ c < 1000000007, ⟨_, _, rfl, mod_lo, mod_hi⟩, ?_, ?_⟩
    · rintro i x η hi ⟨c, t, rfl, c1, c2⟩
      rw [List.getElem?_map] at hi
      cases q : (cutP ns none (some 3))[i]? with
      | none => rw [q] at hi; cases hi
      | some z =>
        rw [q] at hi; cases hi
        refine q_mul (cmul_l c1 c2) ?_
        refine q_add ?_
        refine q_mod (by decide) ?_
        exact ⟨_, _, rfl, mod_lo, mod_hi⟩
    · rintro η ⟨c, t, rfl, _, _⟩
      exact hp c
end
end Z
set_option Elab.async false
set_option linter.all false
set_option maxRecDepth 100000
namespace Z
open PySem PySem.Spec L2
open PyProof.Rows hiding St
section
variable {K : PySem.W.Frag} {C : Addr} {args : List PV} {P : PV → Prop} {PR : PV → Ow → Prop} {PF : List PV → Prop} {o : Ow}
def menu1 : List Str := [("book" : Str), ("cancel" : Str), ("exchange" : Str), ("shift" : Str), ("seats" : Str), ("undo" : Str), ("show" : Str), ("line" : Str), ("count" : Str), ("number" : Str), ("load" : Str), ("trip" : Str)]
def menu2 : List Str := [("none" : Str), ("cut" : Str), ("overfull" : Str), ("a" : Str), ("b" : Str), ("x" : Str), ("plan" : Str), ("route" : Str), ("fixed" : Str), ("full" : Str), ("goal" : Str), ("name" : Str)]
def menuL : List Str := menu1 ++ menu2
theorem at_map {α : Type} {f : α → PV} {xs : List α} {j : Int} (d : α) (h0 : 0 ≤ j) (h1 : j < xs.length) : atI (xs.map f) j = some (f (xs.getD j.toNat d)) := by
  have h : j.toNat < xs.length := by omega
  have e : (xs.map f)[j.toNat]? = some (f (xs.getD j.toNat d)) := by
    rw [List.getElem?_map, List.getElem?_eq_getElem h, List.getD_eq_getElem?_getD, List.getElem?_eq_getElem h]; rfl
  have := atI_nat e
  rwa [Int.toNat_of_nonneg h0] at this
theorem at_get {α : Type} {xs : List α} {j : Int} (d : α) (h0 : 0 ≤ j) (h1 : j < xs.length) : atI xs j = some (xs.getD j.toNat d) := by
  have h : j.toNat < xs.length := by omega
  have e : xs[j.toNat]? = some (xs.getD j.toNat d) := by
    rw [List.getElem?_eq_getElem h, List.getD_eq_getElem?_getD, List.getElem?_eq_getElem h]; rfl
  have := atI_nat e
  rwa [Int.toNat_of_nonneg h0] at this
def W0 (b n : Nat) : List Str := (List.range n).map fun k => menuL.getD ((b + 5 * k) % 24) Str.empty
def W1 (b n : Nat) : List Str := (List.range n).map fun k => strRep ⟨#[abc.cps.toList.getD ((b + 7 * k) % 26) 0]⟩ (1 + k % 8)
theorem Nms.take {ws : List Str} (n : Nat) (h : Nms ws) : Nms (ws.take n) := ⟨fun w hw => h.1 w (List.mem_of_mem_take hw), h.2.sublist (List.take_sublist n ws)⟩
theorem W0_nms : ∀ b < 24, Nms (W0 b 24) := by
  have : ∀ b < 24, ((W0 b 24).all fun w => isNm (.str w)) = true ∧ (W0 b 24).Nodup := by decide +kernel
  exact fun b hb => ⟨fun w hw => List.all_eq_true.mp (this b hb).1 w hw, (this b hb).2⟩
theorem W1_nms : ∀ b < 24, Nms (W1 b 24) := by
  have : ∀ b < 24, ((W1 b 24).all fun w => isNm (.str w)) = true ∧ (W1 b 24).Nodup := by decide +kernel
  exact fun b hb => ⟨fun w hw => List.all_eq_true.mp (this b hb).1 w hw, (this b hb).2⟩
theorem map_take {α : Type} {f : Nat → α} {n m : Nat} (h : n ≤ m) : (List.range n).map f = ((List.range m).map f).take n := by
  rw [← List.map_take, List.take_range, Nat.min_eq_left h]
theorem W0_n {b n : Nat} (hb : b < 24) (hn : n ≤ 24) : Nms (W0 b n) := by
  unfold W0; rw [map_take hn]; exact (W0_nms b hb).take n
theorem W1_n {b n : Nat} (hb : b < 24) (hn : n ≤ 24) : Nms (W1 b n) := by
  unfold W1; rw [map_take hn]; exact (W1_nms b hb).take n
theorem joinL_nil : ∀ ps : List (List Nat), TL.joinL [] ps = ps.flatten
  | [] => rfl
  | [p] => by simp [TL.joinL]
  | p :: q :: r => by
    show p ++ ([] ++ TL.joinL [] (q :: r)) = _
    rw [joinL_nil (q :: r)]; simp
theorem flat_ones : ∀ cs : List Nat, (cs.map fun c => [c]).flatten = cs
  | [] => rfl
  | c :: cs => by rw [List.map_cons, List.flatten_cons, flat_ones cs]; rfl
theorem join_ones (cs : List Nat) : Txt.join Str.empty (cs.map fun c => (⟨#[c]⟩ : Str)) = ⟨cs.toArray⟩ := by
  have h : TL.tl (Txt.join Str.empty (cs.map fun c => (⟨#[c]⟩ : Str))) = cs := by
    rw [TL.join_eq, TL.tl_join, show TL.tl Str.empty = [] from rfl, joinL_nil, List.map_map]
    exact flat_ones cs
  have : ∀ a : Str, a = ⟨(TL.tl a).toArray⟩ := fun a => by cases a; simp
  rw [this (Txt.join _ _), h]
theorem strsOf_map {α : Type} (f : α → Str) : ∀ cs : List α, strsOf (cs.map fun c => PV.str (f c)) = some (cs.map f)
  | [] => rfl
  | c :: cs => by rw [List.map_cons, strsOf, strsOf_map f cs]; rfl
def W2 (st : List Nat) (p b n : Nat) : List Str := (List.range n).map fun k => ⟨(st.take p ++ (abc.cps.toList.getD ((b + 5 * k) % 26) 0 :: st.drop p)).toArray⟩
theorem lets_nd : ∀ b < 24, ((List.range 24).map fun k => abc.cps.toList.getD ((b + 5 * k) % 26) 0).Nodup := by decide +kernel
theorem lets_in : ∀ j < 26, abc.cps.toList.getD j 0 ∈ abc.cps.toList := by decide +kernel
theorem W2_n {st : List Nat} {p b n : Nat} (hs : ∀ c ∈ st, c ∈ abc.cps.toList) (hl : st.length ≤ 7) (hb : b < 24) (hn : n ≤ 24) : Nms (W2 st p b n) := by
  refine ⟨fun w hw => ?_, ?_⟩
  · unfold W2 at hw
    obtain ⟨k, hk, rfl⟩ := List.mem_map.mp hw
    have e : (st.take p).length + (st.drop p).length = st.length := by rw [← List.length_append, List.take_append_drop]
    have e1 : (⟨(st.take p ++ (abc.cps.toList.getD ((b + 5 * k) % 26) 0 :: st.drop p)).toArray⟩ : Str).length = st.length + 1 := by
      show ((st.take p ++ (abc.cps.toList.getD ((b + 5 * k) % 26) 0 :: st.drop p)).toArray).size = _
      rw [List.size_toArray, List.length_append, List.length_cons]; omega
    show (decide (1 ≤ _) && (decide (_ ≤ 8) && List.all _ _)) = true
    rw [e1, decide_eq_true (by omega), decide_eq_true (by omega), Bool.true_and, Bool.true_and]
    refine List.all_eq_true.mpr fun c hc => decide_eq_true ?_
    have hc : c ∈ st.take p ++ (abc.cps.toList.getD ((b + 5 * k) % 26) 0 :: st.drop p) := by simpa using hc
    rcases List.mem_append.mp hc with h | h
    · exact hs c (List.mem_of_mem_take h)
    · rcases List.mem_cons.mp h with h | h
      · rw [h]; exact lets_in _ (Nat.mod_lt _ (by decide))
      · exact hs c (List.mem_of_mem_drop h)
  · have : (W2 st p b 24).Nodup := by
      have h := lets_nd b hb
      unfold W2
      rw [show (fun k => (⟨(st.take p ++ (abc.cps.toList.getD ((b + 5 * k) % 26) 0 :: st.drop p)).toArray⟩ : Str)) = (fun c : Nat => (⟨(st.take p ++ (c :: st.drop p)).toArray⟩ : Str)) ∘ (fun k => abc.cps.toList.getD ((b + 5 * k) % 26) 0) from rfl, ← List.map_map]
      refine List.Pairwise.map _ (fun c d hcd e => ?_) h
      have e' : st.take p ++ (c :: st.drop p) = st.take p ++ (d :: st.drop p) := by simpa using congrArg (fun s : Str => s.cps.toList) e
      exact hcd (List.cons.inj (List.append_cancel_left e')).1
    unfold W2 at this ⊢
    rw [map_take hn]
    exact this.sublist (List.take_sublist _ _)
theorem rd_law_words (h : sp_law_words K C o args PR) : ts_law_words K C { nx := fun η' => ∃ o', η'[0]? = some (Sl.ow o') ∧ PR .non o', rt := fun x η' => ∃ o', η'[0]? = some (Sl.ow o') ∧ PR x o' } (startR 9 o args) := by
  obtain ⟨m, po, rfl, m0, m1, hp⟩ := h
  have e : startR 9 o [.int m] = [.ow o, .va (.int m), .no, .no, .no, .no, .no, .no, .no] := rfl
  rw [e]
  have z24 : 24 < sizeLine := by decide
  refine w_seq (w_set (w_con ?_))
  dsimp only
  refine w_seq (w_set (w_lst (w_strs (ws := menu1) ⟨by decide, ?_⟩)))
  dsimp only
  refine w_seq (w_set (w_op (w_var rfl (w_lst (w_strs (ws := menu2) ⟨by decide, q_addL (by decide) ?_⟩)))))
  dsimp only
  rw [← List.map_append]
  refine w_seq (w_asg (w_tup (w_cons (q_draw rfl rfl po (by decide) (by decide) fun o1 wy p1 wy0 wy1 => ?_))))
  refine w_cons (q_draw rfl rfl p1 (by decide) (by decide) fun o2 b p2 b0 b1 => ?_)
  refine w_nil ⟨sz2, rfl, rfl, ?_⟩
  obtain ⟨b, rfl⟩ := Int.eq_ofNat_of_zero_le b0
  have hb : b < 24 := by omega
  simp only [List.set_cons_zero, List.set_cons_succ]
  refine w_seq (w_if (w_bl (w_op (w_var rfl (w_con (q_eq ?_))))))
  simp only [List.set_cons_zero, List.set_cons_succ]
  refine q_ite (fun hw => ?_) fun hw => ?_
  · refine w_ret (w_val (w_lc (w_rng1 (w_var rfl ⟨by omega, by omega, ?_⟩))))
    refine ⟨fun i acc η => acc = (W0 b i).map .str ∧ η = [.ow o2, .va (.int m), .va (.str abc), .va (.lst (menuL.map .str)), .va (.int wy), .va (.int b), .no, .no, .no], ⟨rfl, rfl⟩, ?_, ?_⟩
    · rintro i x acc η hi ⟨rfl, rfl⟩
      obtain ⟨hn, rfl⟩ := rangeP_get hi
      have hz : ((W0 b i).map PV.str).length < sizeLine := by simp [W0]; omega
      refine w_gname (w_yes (q_iteT ?_))
      refine w_op (w_var rfl (w_op (w_op (w_var rfl (w_op (w_con (w_var rfl (q_mul (.inl ⟨by decide, by decide⟩) (q_add (w_con (q_mod (by decide) ?_)))))))))))
      have ej : ((b : Int) + 5 * (0 + (i : Int))) % 24 = (((b + 5 * i) % 24 : Nat) : Int) := by omega
      refine q_ix (x := .str (menuL.getD ((b + 5 * i) % 24) Str.empty)) ?_ ⟨hz, ?_, rfl⟩
      · rw [ej]
        exact at_map Str.empty (by omega) (by show _ < ((24 : Nat) : Int); omega)
      · unfold W0; rw [List.range_succ, List.map_append, List.map_append]; rfl
    · rintro acc η ⟨rfl, rfl⟩
      rw [rangeP_len]
      exact ⟨o2, rfl, hp o2 _ p2 (by simp [W0]) (W0_n hb (by omega))⟩
  refine w_next ?_
  simp only [List.set_cons_zero, List.set_cons_succ]
  refine w_seq (w_if (w_bl (w_op (w_var rfl (w_con (q_eq ?_))))))
  simp only [List.set_cons_zero, List.set_cons_succ]
  refine q_ite (fun hw => ?_) fun hw => ?_
  · refine w_ret (w_val (w_lc (w_rng1 (w_var rfl ⟨by omega, by omega, ?_⟩))))
    refine ⟨fun i acc η => acc = (W1 b i).map .str ∧ η = [.ow o2, .va (.int m), .va (.str abc), .va (.lst (menuL.map .str)), .va (.int wy), .va (.int b), .no, .no, .no], ⟨rfl, rfl⟩, ?_, ?_⟩
    · rintro i x acc η hi ⟨rfl, rfl⟩
      obtain ⟨hn, rfl⟩ := rangeP_get hi
      have hz : ((W1 b i).map PV.str).length < sizeLine := by simp [W1]; omega
      refine w_gname (w_yes (q_iteT ?_))
      refine w_op (w_op (w_var rfl (w_op (w_op (w_var rfl (w_op (w_con (w_var rfl (q_mul (.inl ⟨by decide, by decide⟩) (q_add (w_con (q_mod (by decide) ?_))))))))))))
      have ej : ((b : Int) + 7 * (0 + (i : Int))) % 26 = (((b + 7 * i) % 26 : Nat) : Int) := by omega
      refine q_ixS (by decide) (by rw [ej]; exact at_get 0 (by omega) (by show _ < ((26 : Nat) : Int); omega)) ?_
      refine w_op (w_con (w_op (w_var rfl (w_con (q_mod (by decide) (q_add ?_))))))
      refine q_mulS (by omega) (by omega) (by show 1 ≤ 1000; decide) ⟨hz, ?_, rfl⟩
      have e8 : ((1 : Int) + (0 + (i : Int)) % 8).toNat = 1 + i % 8 := by omega
      have e7 : (((b + 7 * i) % 26 : Nat) : Int).toNat = (b + 7 * i) % 26 := by omega
      unfold W1; rw [List.range_succ, List.map_append, List.map_append, e8, e7]; rfl
    · rintro acc η ⟨rfl, rfl⟩
      rw [rangeP_len]
      exact ⟨o2, rfl, hp o2 _ p2 (by simp [W1]) (W1_n hb (by omega))⟩
  refine w_next ?_
  simp only [List.set_cons_zero, List.set_cons_succ]
  refine w_seq (w_set (w_join (w_con ⟨⟨_, rfl⟩, w_val (w_lc (w_rng1 (q_draw rfl rfl p2 (by decide) (by decide) fun o3 l p3 l0 l1 => ?_)))⟩)))
  refine ⟨by omega, by omega, ?_⟩
  refine ⟨fun i acc η => ∃ cs : List Nat, acc = cs.map (fun c => .str ⟨#[c]⟩) ∧ cs.length = i ∧ (∀ c ∈ cs, c ∈ abc.cps.toList) ∧ ∃ o', Pool o' ∧ η = [.ow o', .va (.int m), .va (.str abc), .va (.lst (menuL.map .str)), .va (.int wy), .va (.int b), .no, .no, .no], ⟨[], rfl, rfl, fun _ h => (by cases h), o3, p3, rfl⟩, ?_, ?_⟩
  · rintro i x acc η hi ⟨cs, rfl, hcl, hcs, o', p', rfl⟩
    obtain ⟨hn, rfl⟩ := rangeP_get hi
    refine w_gname (w_yes (q_iteT ?_))
    refine w_op (w_var rfl (q_draw rfl rfl p' (by decide) (by decide) fun o'' j p'' j0 j1 => ?_))
    refine q_ixS (by decide) (at_get 0 j0 (by show _ < ((26 : Nat) : Int); omega)) ⟨by rw [List.length_map]; omega, ?_⟩
    refine ⟨cs ++ [abc.cps.toList.getD j.toNat 0], by rw [List.map_append]; rfl, by simp [hcl], fun c hc => ?_, o'', p'', rfl⟩
    rcases List.mem_append.mp hc with h | h
    · exact hcs c h
    · rw [List.mem_singleton.mp h]; exact lets_in _ (by omega)
  rintro acc η ⟨cs, rfl, hcl, hcs, o4, p4, rfl⟩
  rw [rangeP_len] at hcl
  refine ⟨cs.map fun c => ⟨#[c]⟩, strsOf_map _ cs, ?_, ?_⟩
  · have : ((cs.map fun c => (⟨#[c]⟩ : Str)).map (·.length)).sum = cs.length := by
      rw [List.map_map]
      have : ∀ cs : List Nat, (cs.map ((·.length) ∘ fun c => (⟨#[c]⟩ : Str))).sum = cs.length := fun cs => by
        induction cs with
        | nil => rfl
        | cons c cs ih => rw [List.map_cons, List.sum_cons, ih, List.length_cons]; show 1 + _ = _; omega
      exact this cs
    rw [this, show (Str.ofString "").length = 0 from rfl]
    omega
  rw [show (Str.ofString "" : Str) = Str.empty from rfl, join_ones]
  simp only [List.set_cons_zero, List.set_cons_succ]
  have hst : (⟨cs.toArray⟩ : Str).length = cs.length := by show cs.toArray.size = _; simp
  refine w_seq (w_set (w_callR rfl (w_cons (w_op (w_cb (w_cons (w_var rfl (w_nil (q_lenS (by rw [hst]; omega) (w_con (q_add (w_nil (q_callM rfl ?_)))))))))))))
  refine ⟨_, p4, rfl, by omega, by rw [hst]; omega, fun o5 pI p5 pi0 pi1 => ?_⟩
  rw [hst] at pi1
  obtain ⟨p, rfl⟩ := Int.eq_ofNat_of_zero_le pi0
  have hpl : p ≤ cs.length := by omega
  simp only [List.set_cons_zero, List.set_cons_succ]
  refine w_ret (w_val (w_lc (w_rng1 (w_var rfl ⟨by omega, by omega, ?_⟩))))
  refine ⟨fun i acc η => acc = (W2 cs p b i).map .str ∧ η = [.ow o5, .va (.int m), .va (.str abc), .va (.lst (menuL.map .str)), .va (.int wy), .va (.int b), .va (.str ⟨cs.toArray⟩), .va (.int p), .no], ⟨rfl, rfl⟩, ?_, ?_⟩
  · rintro i x acc η hi ⟨rfl, rfl⟩
    obtain ⟨hn, rfl⟩ := rangeP_get hi
    have hz : ((W2 cs p b i).map PV.str).length < sizeLine := by simp [W2]; omega
    have ej : ((b : Int) + 5 * (0 + (i : Int))) % 26 = (((b + 5 * i) % 26 : Nat) : Int) := by omega
    have hs8 : 100 < sizeLine := by decide
    refine w_gname (w_yes (q_iteT ?_))
    refine w_op (w_op (w_slice (w_var rfl (w_nop (w_part (w_var rfl (q_slS (by rw [hst]; omega) ?_)))))))
    refine w_op (w_var rfl (w_op (w_op (w_var rfl (w_op (w_con (w_var rfl (q_mul (.inl ⟨by decide, by decide⟩) (q_add (w_con (q_mod (by decide) ?_)))))))))))
    refine q_ixS (by decide) (by rw [ej]; exact at_get 0 (by omega) (by show _ < ((26 : Nat) : Int); omega)) ?_
    have l1 := cutS_length ⟨cs.toArray⟩ none (some (p : Int))
    have l2 := cutS_length ⟨cs.toArray⟩ (some (p : Int)) none
    refine q_addS (by rw [hst] at l1; show _ + 1 ≤ _; omega) ?_
    refine w_slice (w_var rfl (w_part (w_var rfl (w_nop (q_slS (by rw [hst]; omega) ?_)))))
    refine q_addS (by rw [hst] at l1 l2; rw [Str.length_append]; show _ + 1 + _ ≤ _; omega) ⟨hz, ?_, rfl⟩
    unfold W2
    rw [List.range_succ, List.map_append, List.map_append]
    have e7 : (((b + 5 * i) % 26 : Nat) : Int).toNat = (b + 5 * i) % 26 := by omega
    have ec1 : cutS ⟨cs.toArray⟩ none (some (p : Int)) = ⟨(cs.take p).toArray⟩ := by
      unfold cutS
      rw [HT.sIx_nat, HT.sIx_none, hst, Nat.min_eq_left hpl]; simp
    have ec2 : cutS ⟨cs.toArray⟩ (some (p : Int)) none = ⟨(cs.drop p).toArray⟩ := by
      unfold cutS
      rw [HT.sIx_nat, HT.sIx_none, hst, Nat.min_eq_left hpl, List.take_of_length_le (by simp)]
    rw [ec1, ec2, e7]
    have : (⟨(cs.take p).toArray⟩ : Str) ++ (⟨#[abc.cps.toList.getD ((b + 5 * i) % 26) 0]⟩ : Str) ++ (⟨(cs.drop p).toArray⟩ : Str) = ⟨(cs.take p ++ (abc.cps.toList.getD ((b + 5 * i) % 26) 0 :: cs.drop p)).toArray⟩ := by
      show (⟨_ ++ _ ++ _⟩ : Str) = _
      congr 1
      simp
    rw [this]; rfl
  · rintro acc η ⟨rfl, rfl⟩
    rw [rangeP_len]
    exact ⟨o5, rfl, hp o5 _ p5 (by simp [W2]) (W2_n hcs (by omega) hb (by omega))⟩
end
end Z
set_option Elab.async false
set_option linter.all false
set_option maxRecDepth 100000
namespace Z
open PySem PySem.Spec L2
open PyProof.Rows hiding St
section
variable {K : PySem.W.Frag} {C : Addr} {args : List PV} {P : PV → Prop} {PR : PV → Ow → Prop} {PF : List PV → Prop} {o : Ow}
theorem w_par {is : List Nat} {tr : TArp} {D : EndsP} {η : EP'} (h : tr η fun ars η1 => ars.length = is.length ∧ okIx η1.length is ars ∧ D.nx (storesP is ars η1)) : tParP is tr D η := h
theorem w_arF {tf : TFp} {tr : TArp} {η : EP'} {Q : List Ar → EP' → Prop} (h : tf η fun xs η1 => tr η1 fun ars η2 => Q (.f xs :: ars) η2) : tConsF tf tr η Q := h
theorem w_arV {te : TEp} {tr : TArp} {η : EP'} {Q : List Ar → EP' → Prop} (h : te η fun x η1 => tr η1 fun ars η2 => Q (.v x :: ars) η2) : tConsV te tr η Q := h
theorem w_arN {η : EP'} {Q : List Ar → EP' → Prop} (h : Q [] η) : tNilAr η Q := h
def appM (s : Nat) (x : PV) (η : EP') (R : EP' → Prop) : Prop := match η[s]? with
  | some (.ow (.l xs)) => xs.length < sizeLine ∧ R (η.set s (.ow (.l (xs ++ [x]))))
  | _ => False
theorem w_app {s : Nat} {te : TEp} {D : EndsP} {η : EP'} {xs : List PV} (e : η[s]? = some (.ow (.l xs))) (h : te η fun x η1 => appM s x η1 D.nx) : tAppP s te D η := ⟨⟨xs, e⟩, h⟩
theorem q_appM {s : Nat} {x : PV} {η : EP'} {R : EP' → Prop} {xs : List PV} (e : η[s]? = some (.ow (.l xs))) (l : xs.length < sizeLine) (h : R (η.set s (.ow (.l (xs ++ [x]))))) : appM s x η R := by unfold appM; rw [e]; exact ⟨l, h⟩
theorem w_varL {xs : List PV} {η : EP'} {s : Nat} {Q : List PV → EP' → Prop} (e : η[s]? = some (.va (.lst xs))) (h : Q xs η) : iListP (tVarP s) η Q := by
  unfold iListP
  exact w_var e h
end
end Z
set_option Elab.async false
set_option linter.all false
set_option maxRecDepth 100000
namespace Z
open PySem PySem.Spec L2
open PyProof.Rows hiding St
section
variable {K : PySem.W.Frag} {C : Addr} {args : List PV} {P : PV → Prop} {PR : PV → Ow → Prop} {PF : List PV → Prop} {o : Ow}
def rowD (r : Trip) : PyData := .tuple [.str r.1, .int r.2.1, .int r.2.2]
end
end Z
set_option Elab.async false
set_option linter.all false
set_option maxRecDepth 100000
namespace Z
open PySem PySem.Spec L2
open PyProof.Rows hiding St
section
variable {K : PySem.W.Frag} {C : Addr} {args : List PV} {P : PV → Prop} {PR : PV → Ow → Prop} {PF : List PV → Prop} {o : Ow}
end
end Z
set_option Elab.async false
set_option linter.all false
set_option maxRecDepth 100000
namespace Z
open PySem PySem.Spec L2
open PyProof.Rows hiding St
section
variable {K : PySem.W.Frag} {C : Addr} {args : List PV} {P : PV → Prop} {PR : PV → Ow → Prop} {o : Ow}
/-! ### data of rows -/
/-! what repr shows of rows -/
structure ShowR (r : Trip) : Prop where
  g : GoodR r
  l : r.1.length ≤ 8
  s : r.2.1 < 10 ^ 70
  e : r.2.2 < 10 ^ 70
end
end Z
set_option Elab.async false
set_option linter.all false
set_option maxRecDepth 100000
namespace Z
open PySem PySem.Spec L2
open PyProof.Rows hiding St
section
variable {K : PySem.W.Frag} {C : Addr} {args : List PV} {P : PV → Prop} {PR : PV → Ow → Prop} {o : Ow}
theorem w_andV {ta tb : TEp} {η : EP'} {Q : PV → EP' → Prop} (h : ta η fun x η1 => match x with | .bl true => tb η1 Q | .bl false => Q (.bl false) η1 | _ => False) : tAndVP ta tb η Q := h
theorem w_itup {te : TEp} {η : EP'} {Q : List PV → EP' → Prop} (h : te η fun x η1 => match x with
  | .tup xs => Q xs η1
  | _ => False) : iTupP te η Q := h
theorem w_istr {te : TEp} {η : EP'} {Q : List PV → EP' → Prop} (h : te η fun x η1 => match x with
  | .str z => Q (z.cps.toList.map fun c => .str ⟨#[c]⟩) η1
  | _ => False) : iStrP te η Q := h
theorem w_sliceA {te : TEp} {tl th : TOp} {η : EP'} {Q : PV → EP' → Prop} (h : te η fun x η1 => tl η1 fun l η2 => th η2 fun u η3 => rSlA x l u fun z => Q z η3) : tSliceAP te tl th η Q := h
theorem w_neg' {te : TEp} {η : EP'} {Q : PV → EP' → Prop} (h : te η fun x η1 => match x with | .int i => Q (.int (-i)) η1 | _ => False) : tNegP te η Q := h
theorem q_eqI {a b : Str} (h : P (.bl (decide (a = b)))) : rEqI false (.str a) (.str b) P := h
theorem q_neN {a b : Int} (h : P (.bl (!decide (a = b)))) : rEqI true (.int a) (.int b) P := h
theorem q_neB {a b : Bool} (h : P (.bl (!decide (a = b)))) : rEqI true (.bl a) (.bl b) P := h
theorem q_eqB {a b : Bool} (h : P (.bl (decide (a = b)))) : rEqI false (.bl a) (.bl b) P := h
theorem w_dic0' {η : EP'} {Q : PV → EP' → Prop} (h : Q .dic0 η) : tDic0P η Q := h
theorem q_addLL {xs ys : List PV} {Q : PV → Prop} (l : xs.length + ys.length ≤ sizeLine) (h : Q (.lst (xs ++ ys))) : rAdd (.lst xs) (.lst ys) Q := ⟨l, h⟩
theorem q_slA {xs : List PV} {lo hi : Option Int} {Q : PV → Prop} (h : Q (.tup (cutP xs lo hi))) : rSlA (.tup xs) lo hi Q := h
theorem w_setF {i : Nat} {tf : TFp} {D : EndsP} {η : EP'} (h0 : (0 : Nat) ≠ i) (h : tf η fun xs η1 => i < η1.length ∧ D.nx (η1.set i (.ow (.l xs)))) : tSetFP i tf D η := ⟨h0, h⟩
theorem w_callRF' {tf : TFp} {sr : SpR} {t : TAp} {η : EP'} {Q : PV → EP' → Prop} (h : tf η fun xs η1 => t η1 fun args η2 => sr (.l xs) args fun z _ => Q z η2) : tCallRFP tf sr t η Q := h
theorem w_callF' {sp : SpF} {t : TAp} {η : EP'} {Q : List PV → EP' → Prop} (h : t η fun args η1 => sp args fun xs => Q xs η1) : tCallFP sp t η Q := h
end
end Z
set_option Elab.async false
set_option linter.all false
set_option maxRecDepth 100000
namespace Z
open PySem PySem.Spec L2
open PyProof.Rows hiding St
/-! ### what the views of a line are -/
def passes (st : Int) (r : Trip) : Bool := decide (r.2.1 ≤ st) && decide (st < r.2.2)
def loadN (rs : List Trip) (st : Int) : Int := ((rs.filter (passes st)).length : Int)
def qLe (a b : Trip) : Bool := PySem.W.dataLe false (keyP 1 0) (rowP a) (rowP b)
def queueT (rs : List Trip) : List Trip := rs.mergeSort qLe
theorem queue_perm (rs : List Trip) : (queueT rs).Perm rs := List.mergeSort_perm _ _
theorem queue_len (rs : List Trip) : (queueT rs).length = rs.length := (queue_perm rs).length_eq
/-! bounds -/
structure Short (r : Trip) : Prop where
  g : GoodR r
  l : r.1.length ≤ 8
  s : r.2.1 < 10 ^ 60
  e : r.2.2 < 10 ^ 60
/-! signs -/
end Z
set_option Elab.async false
set_option linter.all false
set_option maxRecDepth 100000
namespace Z
open PySem PySem.Spec L2
open PyProof.Rows hiding St
/-! ### promises of a line's views -/
def namedP (rs : List Trip) : PV → PV
  | .str w => match rs.find? (fun r => decide (r.1 = w)) with
    | some r => rowP r
    | none => .non
  | _ => .non
section
variable {K : PySem.W.Frag} {C : Addr} {args : List PV} {P : PV → Prop} {PR : PV → Ow → Prop} {o : Ow}
end
end Z
set_option Elab.async false
set_option linter.all false
set_option maxRecDepth 100000
namespace Z
open PySem PySem.Spec L2
open PyProof.Rows hiding St
section
variable {K : PySem.W.Frag} {C : Addr} {args : List PV} {P : PV → Prop} {PR : PV → Ow → Prop} {o : Ow}
theorem w_chain {r r' : R2p} {ta tb tc : TEp} {η : EP'} {Q : PV → EP' → Prop} (h : ta η fun x η1 => tb η1 fun y η2 => r x y fun z => ∃ k, z = .bl k ∧ if k = true then tc η2 fun w η3 => r' y w fun z' => Q z' η3 else Q (.bl false) η2) : tChainP r r' ta tb tc η Q := h
theorem take_map {α β : Type} {l : List α} {f : α → β} {i : Nat} {a : α} (h : l[i]? = some a) : (l.take (i + 1)).map f = (l.take i).map f ++ [f a] := by
  rw [List.take_succ, h, List.map_append]
  rfl
theorem take_filter {α : Type} {l : List α} {p : α → Bool} {i : Nat} {a : α} (h : l[i]? = some a) : (l.take (i + 1)).filter p = (l.take i).filter p ++ [a].filter p := by
  rw [List.take_succ, h, List.filter_append]
  rfl
theorem take_filterT {α : Type} {l : List α} {p : α → Bool} {i : Nat} {a : α} (h : l[i]? = some a) (hp : p a = true) : (l.take (i + 1)).filter p = (l.take i).filter p ++ [a] := by
  rw [take_filter h, List.filter_cons_of_pos hp]
  rfl
theorem take_filterF {α : Type} {l : List α} {p : α → Bool} {i : Nat} {a : α} (h : l[i]? = some a) (hp : p a = false) : (l.take (i + 1)).filter p = (l.take i).filter p := by
  rw [take_filter h, List.filter_cons_of_neg (by rw [hp]; decide)]
  exact List.append_nil _
theorem filt_len {α : Type} {l : List α} {p : α → Bool} {i : Nat} (h : l.length ≤ 24) : ((l.take i).filter p).length < sizeLine := by
  have h1 := List.length_filter_le p (l.take i)
  rw [List.length_take] at h1
  have : 1000 < sizeLine := by decide
  omega
/-! names that are left out -/
end
end Z
set_option Elab.async false
set_option linter.all false
set_option maxRecDepth 100000
namespace Z
open PySem PySem.Spec L2
open PyProof.Rows hiding St
/-! ### trips by start, loads, as laws ask them -/
section
variable {K : PySem.W.Frag} {C : Addr} {args : List PV} {P : PV → Prop} {PR : PV → Ow → Prop} {o : Ow}
end
end Z
set_option Elab.async false
set_option linter.all false
set_option maxRecDepth 100000
namespace Z
open PySem PySem.Spec L2
open PyProof.Rows hiding St
section
variable {K : PySem.W.Frag} {C : Addr} {args : List PV} {P : PV → Prop} {PR : PV → Ow → Prop} {o : Ow}
/-! ### rows by start, name, row -/
def triP (r : Trip) : PV := .tup [.int r.2.1, .str r.1, rowP r]
def triD (r : Trip) : PyData := .tuple [.int r.2.1, .str r.1, rowD r]
theorem toDs_tri : ∀ rs : List Trip, toDs (rs.map triP) = some (rs.map triD)
  | [] => rfl
  | r :: rs => by
    rw [List.map_cons, toDs, toDs_tri rs]
    rfl
theorem alike_tri (rs : List Trip) : PySem.W.AllAlike (rs.map triD) := fun d hd d' hd' => by
  obtain ⟨a, _, rfl⟩ := List.mem_map.mp hd
  obtain ⟨b, _, rfl⟩ := List.mem_map.mp hd'
  simp [triD, rowD, PySem.W.alike, PySem.W.alikeAll]
theorem tri_le {a b : Trip} (h : a.1 = b.1 → a = b) : PySem.W.dataLe false encD (triP a) (triP b) = qLe a b := by
  show (!PySem.W.dataLt (.tuple [.int b.2.1, .str b.1, rowD b]) (.tuple [.int a.2.1, .str a.1, rowD a])) = !PySem.W.dataLt (.tuple [.int b.2.1, .str b.1]) (.tuple [.int a.2.1, .str a.1])
  rw [PySem.W.dataLt_tuple, PySem.W.dataLt_tuple, PySem.W.dataLt_cons (x := .int b.2.1) (y := .int a.2.1) (by simp [PySem.W.alike]) [.str b.1, rowD b], PySem.W.dataLt_cons (x := .int b.2.1) (y := .int a.2.1) (by simp [PySem.W.alike]) [.str b.1],
    PySem.W.dataLt_cons (x := .str b.1) (y := .str a.1) (by simp [PySem.W.alike]) [rowD b], PySem.W.dataLt_cons (x := .str b.1) (y := .str a.1) (by simp [PySem.W.alike]) []]
  by_cases e : PyData.eqv (.str b.1) (.str a.1) = true
  · have e1 : b.1 = a.1 := by simpa [PyData.eqv] using e
    obtain rfl := h e1.symm
    rw [PyProof.Rows.lex_irrefl, PyProof.Rows.lex_irrefl]
  · rw [if_neg e, if_neg e]
theorem tri_sort {rs : List Trip} (h : (rs.map (·.1)).Nodup) : (rs.map triP).mergeSort (PySem.W.dataLe false encD) = (queueT rs).map triP := by
  unfold queueT
  refine (List.map_mergeSort (r := qLe) (s := PySem.W.dataLe false encD) (f := triP) (l := rs) fun a ha b hb => ?_).symm
  refine (tri_le fun e => ?_).symm
  obtain ⟨i, hi, rfl⟩ := List.mem_iff_getElem.mp ha
  obtain ⟨j, hj, rfl⟩ := List.mem_iff_getElem.mp hb
  have := (List.getElem_inj (i := i) (j := j) (h₀ := by rw [List.length_map]; exact hi) (h₁ := by rw [List.length_map]; exact hj) h).mp (by rw [List.getElem_map, List.getElem_map]; exact e)
  subst this
  rfl
theorem asc_nodup {rs : List Trip} (h : Rw rs) : (rs.map (·.1)).Nodup := by
  unfold List.Nodup
  refine List.pairwise_map.mpr (h.asc.imp fun {a b} hab e => ?_)
  rw [e] at hab
  exact List.lt_irrefl _ hab
theorem w_notV {te : TEp} {η : EP'} {Q : PV → EP' → Prop} (h : te η fun x η1 => match x with | .bl b => Q (.bl (!b)) η1 | _ => False) : tNotVP te η Q := h
theorem q_eqN {a b : Int} (h : P (.bl (decide (a = b)))) : rEqI false (.int a) (.int b) P := h
end
end Z
set_option Elab.async false
set_option linter.all false
set_option maxRecDepth 100000
namespace Z
open PySem PySem.Spec L2
open PyProof.Rows hiding St
/-! ### plans of the program: what there is to choose -/
def overR (n : Int) (rs : List Trip) : Option Trip := (queueT rs).find? fun r => decide (n < loadN rs r.2.1)
def meetB (a b : Trip) : Bool := decide (a.2.1 < b.2.2) && decide (b.2.1 < a.2.2)
def szAt (n : Int) (q : List Trip) (i : Nat) : Int := match q[i]? with
  | some r => n - (((q.take i).filter (meetB r)).length : Int)
  | none => 0
section
variable {K : PySem.W.Frag} {C : Addr} {args : List PV} {P : PV → Prop} {PR : PV → Ow → Prop} {o : Ow}
end
end Z
set_option Elab.async false
set_option linter.all false
set_option maxRecDepth 100000
namespace Z
open PySem PySem.Spec L2
open PyProof.Rows hiding St
section
variable {K : PySem.W.Frag} {C : Addr} {args : List PV} {P : PV → Prop} {PR : PV → Ow → Prop} {o : Ow}
theorem w_lstP {te : TEp} {η : EP'} {Q : List PV → EP' → Prop} (h : te η fun x η1 => match x with | .lst xs => Q xs η1 | .scr ns => Q (ns.map .int) η1 | _ => False) : iListP te η Q := h
theorem szAt_eq {n : Int} {q : List Trip} {i : Nat} {r : Trip} (h : q[i]? = some r) : szAt n q i = n - (((q.take i).filter (meetB r)).length : Int) := by
  unfold szAt; rw [h]
end
end Z
set_option Elab.async false
set_option linter.all false
set_option maxRecDepth 100000
namespace Z
open PySem PySem.Spec L2
open PyProof.Rows hiding St
/-! ### the queue rises by starts -/
theorem qLe_eq (a b : Trip) : qLe a b = decide (a.2.1 < b.2.1 ∨ (a.2.1 = b.2.1 ∧ a.1.cps.toList ≤ b.1.cps.toList)) := by
  show (!PySem.W.dataLt (.tuple [.int b.2.1, .str b.1]) (.tuple [.int a.2.1, .str a.1])) = _
  rw [PySem.W.dataLt_pair (by simp [PySem.W.alike]) (by simp [PySem.W.alike])]
  have e1 : (!PySem.W.dataLt (.int b.2.1) (.int a.2.1)) = decide (a.2.1 ≤ b.2.1) := congrFun (congrFun (PySem.W.dataLe_int (fun r : Trip => r.2.1)) a) b
  have e2 : (!PySem.W.dataLt (.str b.1) (.str a.1)) = decide (a.1.cps.toList ≤ b.1.cps.toList) := congrFun (congrFun (PySem.W.dataLe_str (fun r : Trip => r.1)) a) b
  have e3 : PyData.eqv (.int b.2.1) (.int a.2.1) = decide (b.2.1 = a.2.1) := by simp only [PyData.eqv]; rw [Bool.eq_iff_iff]; simp
  have e4 : PyData.eqv (.str b.1) (.str a.1) = decide (b.1 = a.1) := by simp only [PyData.eqv]; rw [Bool.eq_iff_iff]; simp
  rw [e3, e4]
  by_cases c : b.2.1 = a.2.1
  · rw [decide_eq_true c, if_pos rfl]
    by_cases d : b.1 = a.1
    · rw [decide_eq_true d, if_pos rfl, d, c]
      exact (decide_eq_true (.inr ⟨rfl, List.le_refl _⟩)).symm
    · rw [decide_eq_false d, if_neg Bool.false_ne_true, e2, Bool.eq_iff_iff, decide_eq_true_iff, decide_eq_true_iff]
      exact ⟨fun h => .inr ⟨c.symm, h⟩, fun h => h.elim (fun z => by omega) fun z => z.2⟩
  · rw [decide_eq_false c, if_neg Bool.false_ne_true, e1, Bool.eq_iff_iff, decide_eq_true_iff, decide_eq_true_iff]
    exact ⟨fun h => .inl (by omega), fun h => h.elim (fun z => by omega) fun z => by omega⟩
theorem qLe_trans (a b c : Trip) (h1 : qLe a b = true) (h2 : qLe b c = true) : qLe a c = true := by
  rw [qLe_eq, decide_eq_true_iff] at *
  rcases h1 with h1 | ⟨h1, l1⟩ <;> rcases h2 with h2 | ⟨h2, l2⟩
  · exact .inl (by omega)
  · exact .inl (by omega)
  · exact .inl (by omega)
  · exact .inr ⟨by omega, List.le_trans l1 l2⟩
theorem qLe_total (a b : Trip) : (qLe a b || qLe b a) = true := by
  rw [Bool.or_eq_true, qLe_eq, qLe_eq, decide_eq_true_iff, decide_eq_true_iff]
  rcases Int.lt_trichotomy a.2.1 b.2.1 with c | c | c
  · exact .inl (.inl c)
  · rcases List.le_total a.1.cps.toList b.1.cps.toList with d | d
    · exact .inl (.inr ⟨c, d⟩)
    · exact .inr (.inr ⟨c.symm, d⟩)
  · exact .inr (.inl c)
theorem queue_up (rs : List Trip) : (queueT rs).Pairwise fun a b => a.2.1 ≤ b.2.1 := by
  refine (List.pairwise_mergeSort qLe_trans qLe_total rs).imp fun {a b} h => ?_
  rw [qLe_eq, decide_eq_true_iff] at h
  omega
theorem load_queue (rs : List Trip) (st : Int) : loadN rs st = (((queueT rs).filter (passes st)).length : Int) := by
  unfold loadN
  rw [((queue_perm rs).filter (passes st)).length_eq]
end Z
set_option Elab.async false
set_option linter.all false
set_option maxRecDepth 100000
namespace Z
open PySem PySem.Spec L2
open PyProof.Rows hiding St
/-! ### promises: lines with one trip more, or some less -/
def Asc (us : List Trip) : Prop := us.Pairwise fun a b => a.1.cps.toList < b.1.cps.toList
section
variable {K : PySem.W.Frag} {C : Addr} {args : List PV} {P : PV → Prop} {PR : PV → Ow → Prop} {o : Ow}
end
end Z
set_option Elab.async false
set_option linter.all false
set_option maxRecDepth 100000
namespace Z
open PySem PySem.Spec L2
open PyProof.Rows hiding St
section
variable {K : PySem.W.Frag} {C : Addr} {args : List PV} {P : PV → Prop} {PR : PV → Ow → Prop} {o : Ow}
theorem named_in {rs : List Trip} {r : Trip} (hw : Rw rs) (hr : r ∈ rs) : namedP rs (.str r.1) = rowP r := by
  unfold namedP
  have hnd := asc_nodup hw
  have f : rs.find? (fun q => decide (q.1 = r.1)) = some r := by
    cases e : rs.find? (fun q => decide (q.1 = r.1)) with
    | none => exact absurd (decide_eq_true rfl) (List.find?_eq_none.mp e r hr)
    | some q =>
      have hq := List.mem_of_find?_eq_some e
      have he : q.1 = r.1 := by simpa using List.find?_some e
      have : q = r := by
        obtain ⟨i, hi, rfl⟩ := List.mem_iff_getElem.mp hq
        obtain ⟨j, hj, rfl⟩ := List.mem_iff_getElem.mp hr
        have := (List.getElem_inj (i := i) (j := j) (h₀ := by rw [List.length_map]; exact hi) (h₁ := by rw [List.length_map]; exact hj) hnd).mp (by rw [List.getElem_map, List.getElem_map]; exact he)
        subst this
        rfl
      rw [this]
  simp only [f]
theorem perm_asc {us vs : List Trip} (h : us.Perm vs) (hu : Asc us) (hv : Asc vs) : us = vs := by
  refine h.eq_of_pairwise (le := fun a b : Trip => a.1.cps.toList < b.1.cps.toList) (fun a b _ _ h1 h2 => ?_) hu hv
  exact absurd (List.lt_trans h1 h2) (List.lt_irrefl _)
end
end Z
set_option Elab.async false
set_option linter.all false
set_option maxRecDepth 100000
/-! while; generators of one's own that list(..) empties; own.extend(..); own + list; sorted of one item -/
namespace Z
open PySem PySem.Spec L2 GenW
open PyProof.Rows hiding St
section
variable {X : Cx} {T : List (Addr × Str)} {e o c : Expr} {es : List Expr} {st : Stmt} {body rest : List Stmt} {te ta : TEp} {t : TAp} {tt : TTp} {ts tb : TSp} {pos p p' pos' : Pos} {k : Nat} {f : Addr} {fd : FuncData} {ps : List Str} {x nm : Str} {i : Nat}
/-! ### while -/
/-! ### a generator's statements -/
structure GEndsP where
  nx : List PV → EP' → Prop
abbrev TGSp := GEndsP → List PV → EP' → Prop
theorem GS.weak {t t' : TGn} (h : GS X st t) (w : ∀ D ys σ H, t' D ys σ H → t D ys σ H) : GS X st t' := ⟨fun A S ip R n ys s₀ c fs K J gd lv s σ H D g hn kk hI ht => h.run A S ip R n ys s₀ c fs K J gd lv s σ H D g hn kk hI (w _ _ _ _ ht)⟩
theorem GSs.weak {t t' : TGn} (h : GSs X body t) (w : ∀ D ys σ H, t' D ys σ H → t D ys σ H) : GSs X body t' := ⟨fun A S ip R n ys s₀ c fs K J gd lv s σ H D g hn kk hI ht => h.run A S ip R n ys s₀ c fs K J gd lv s σ H D g hn kk hI (w _ _ _ _ ht)⟩
/-! ### own.extend(e) -/
/-! ### own + e -/
end
/-! ### sorted of at most one item -/
section
variable {prog : Program} {w : World} {A : Around} {E : Value → Shared → Prop} {s : Shared} {β : Type} {vs : List Value} {bs : List β} {enc : β → PyData} {R : Value → β → Prop}
end
section
variable {X : Cx}
end
/-! ### steps -/
section
variable {te : TEp} {ts tb : TSp} {tt : TTp} {tg u : TGSp} {η : EP'} {D : EndsP} {G : GEndsP} {i : Nat} {pys : List PV} {P : PV → EP' → Prop} {Q : List PV → EP' → Prop} {sp : SpF} {t : TAp}
end
end Z
set_option Elab.async false
set_option linter.all false
set_option maxRecDepth 100000
/-! dicts with ints and texts as keys -/
namespace Z
open PySem PySem.Spec L2
open PyProof.Rows hiding St
theorem Room.u1 {k : Nat} {A : Around} (h : Room k A) : A.units + 1 < cLine := by have := h.units; omega
def dkey : PV → Option Key
  | .int i => some (.inl i)
  | .str x => some (.inr x)
  | _ => none
def valP : List (Key × PV) → Key → Option PV
  | [], _ => none
  | p :: r, k => if p.1 = k then some p.2 else valP r k
def putP (kvs : List (Key × PV)) (k : Key) (x : PV) : List (Key × PV) :=
  if (kvs.any fun kv => decide (kv.1 = k)) = true then kvs.map (fun kv => if kv.1 = k then (kv.1, x) else kv) else kvs ++ [(k, x)]
section
variable {K : PySem.W.Frag} {O O' : Addr → Prop} {H H' : Hp}
theorem dkey_rep {x : PV} {v : V} {k : Key} (h : Rep K O H x v) (e : dkey x = some k) : v = kV k := by
  cases x <;> unfold dkey at e <;> cases e
  · exact h.int_
  · exact h.str_
theorem RepD.inv {n : Key} {x : PV} {xs : List (Key × PV)} {vs : List (Key × V)} (h : RepD K O H ((n, x) :: xs) vs) : ∃ v us, vs = (n, v) :: us ∧ Rep K O H x v ∧ RepD K O H xs us := by unfold RepD at h; exact h
theorem RepD.inv0 {vs : List (Key × V)} (h : RepD K O H [] vs) : vs = [] := by unfold RepD at h; exact h
theorem RepD.cons {n : Key} {x : PV} {v : V} {xs : List (Key × PV)} {vs : List (Key × V)} (h : Rep K O H x v) (t : RepD K O H xs vs) : RepD K O H ((n, x) :: xs) ((n, v) :: vs) := by unfold RepD; exact ⟨v, vs, rfl, h, t⟩
theorem RepD.app : ∀ {xs ys : List (Key × PV)} {vs us : List (Key × V)}, RepD K O H xs vs → RepD K O H ys us → RepD K O H (xs ++ ys) (vs ++ us)
  | [], _, _, _, h, t => by rw [h.inv0]; exact t
  | (n, x) :: xs, _, _, _, h, t => by
    obtain ⟨v, us, rfl, r, q⟩ := h.inv
    exact .cons r (q.app t)
theorem RepD.val : ∀ {xs : List (Key × PV)} {vs : List (Key × V)} (k : Key), RepD K O H xs vs → (∀ x, valP xs k = some x → ∃ v, valV vs k = some v ∧ Rep K O H x v) ∧ (valP xs k = none → valV vs k = none)
  | [], _, k, h => by
    rw [h.inv0]
    exact ⟨fun x e => (nomatch e), fun _ => rfl⟩
  | (n, x) :: xs, _, k, h => by
    obtain ⟨v, us, rfl, r, t⟩ := h.inv
    obtain ⟨h1, h2⟩ := t.val k
    by_cases e : n = k
    · refine ⟨fun y q => ?_, fun q => ?_⟩
      · unfold valP at q; rw [if_pos e] at q; cases q
        exact ⟨v, valV_pos (p := (n, v)) e, r⟩
      · unfold valP at q; rw [if_pos e] at q; cases q
    · rw [valV_neg (p := (n, v)) e]
      unfold valP; rw [if_neg e]
      exact ⟨h1, h2⟩
theorem RepD.any : ∀ {xs : List (Key × PV)} {vs : List (Key × V)} (k : Key), RepD K O H xs vs → (vs.any fun kv => decide (kv.1 = k)) = (xs.any fun kv => decide (kv.1 = k))
  | [], _, k, h => by rw [h.inv0]; rfl
  | (n, x) :: xs, _, k, h => by
    obtain ⟨v, us, rfl, r, t⟩ := h.inv
    rw [List.any_cons, List.any_cons, t.any k]
theorem RepD.repl : ∀ {xs : List (Key × PV)} {vs : List (Key × V)} (k : Key) {y : PV} {u : V}, RepD K O H xs vs → Rep K O H y u → RepD K O H (xs.map fun kv => if kv.1 = k then (kv.1, y) else kv) (vs.map fun kv => if kv.1 = k then (kv.1, u) else kv)
  | [], _, k, _, _, h, _ => by rw [h.inv0]; exact .nil
  | (n, x) :: xs, _, k, _, _, h, ry => by
    obtain ⟨v, us, rfl, r, t⟩ := h.inv
    rw [List.map_cons, List.map_cons]
    by_cases e : n = k
    · rw [if_pos e, if_pos e]; exact .cons ry (t.repl k ry)
    · rw [if_neg e, if_neg e]; exact .cons r (t.repl k ry)
theorem RepD.put {xs : List (Key × PV)} {vs : List (Key × V)} (k : Key) {y : PV} {u : V} (h : RepD K O H xs vs) (ry : Rep K O H y u) : RepD K O H (putP xs k y) (putK vs k u) := by
  unfold putP putK
  rw [h.any k]
  split
  · exact h.repl k ry
  · exact h.app (.cons ry .nil)
theorem Rep.dic_ {kvs : List (Key × PV)} {v : V} (h : Rep K O H (.dic kvs) v) : ∃ a ws, v = .ref a ∧ ¬ O a ∧ H a = some (.dK ws) ∧ RepD K O H kvs ws := by unfold Rep at h; exact h
end
/-! ### fresh dicts -/
abbrev TFDp := EP' → (List (Key × PV) → EP' → Prop) → Prop
def upFD (K : PySem.W.Frag) (T : List (Addr × Str)) (tp : TFDp) : TE := fun σ H Q => ∃ F η P, Rs K T F σ η H ∧ tp η P ∧ ∀ kvs η' a ws H', P kvs η' → Ext σ η σ η' H H' → Rs K T (With F a) σ η' H' → Nw H a → ¬ F a → H' a = some (.dK ws) → RepD K (Oof (With F a) σ η') H' kvs ws → Q (.ref a) H'
section
variable {X : Cx} {T : List (Addr × Str)} {e o a b : Expr} {es : List Expr} {te ta tb ti : TEp} {t : TAp} {tr : TArp} {tf : TFDp} {pos : Pos} {i : Nat}
def tDicFD : TFDp := fun η P => P [] η
theorem zd_dic0 : PE X (.Dict [] [] pos) (upFD X.K T tDicFD) := by
  refine PE.weak pe_dnewK fun σ H Q q => ?_
  obtain ⟨F, η, P, R, h, k⟩ := q
  intro p hp
  have hn : Nw H p := Nw.of hp
  exact k [] η p [] _ h (.same (Same.new hp)) (R.add hp nofun) hn (fun z => R.tr p z hn) upd_same .nil
def tSetFDP (i : Nat) (tf : TFDp) : TSp := fun D η => (0 : Nat) ≠ i ∧ tf η fun kvs η1 => i < η1.length ∧ D.nx (η1.set i (.ow (.d kvs)))
theorem z_setFD {i : Nat} {x : Str} {pos' : Pos} (hN : X.N.Nodup) (hi : X.N[i]? = some x) (hx : Loc X.env.scope x) (he : PE X e (upFD X.K T tf)) (hs : swapsWith e (some (.Name x pos')) pos.line X.env = pure false := by rfl) (hf : X.fn x = true ∨ X.env.scope.names.lookup x = some .local := by first | exact .inl rfl | exact .inr rfl | assumption) :
    PS X (.Assign [.Name x pos'] e pos) (upS X.K T (tSetFDP i tf)) := by
  refine PS.weak (ps_set hN hi hx he hs hf) fun D σ H q => ?_
  obtain ⟨F, η, D', R, ⟨hi, h⟩, k1, k2, k3, k4⟩ := q
  refine ⟨F, η, _, R, h, fun kvs η1 a vs H1 h1 e1 R1 hn nf hv r => ?_⟩
  exact k1 _ _ _ h1.2 (e1.seto hn hi) (R1.seto nf ⟨vs, hv, r⟩ h1.1)
/-! ### reading -/
def tDGetP (td ti : TEp) : TEp := fun η P => td η fun x η1 => ti η1 fun y η2 => match x with
  | .dic kvs => ∃ k z, dkey y = some k ∧ valP kvs k = some z ∧ P z η2
  | _ => False
theorem z_dget (hu : X.A.units + 1 < cLine) (ha : PE X a (up X.K T ta)) (hb : PE X b (up X.K T tb)) (hs : NoSl b := by exact fun _ _ => rfl) : PE X (.Subscript a b pos) (up X.K T (tDGetP ta tb)) := by
  refine PE.weak (pe_dget hu ha hb hs) fun σ H Q q => ?_
  obtain ⟨F, η, P, R, h, k⟩ := q
  refine ⟨F, η, _, R, h, fun x η1 v H1 h1 e1 R1 r1 => ⟨F, η1, _, R1, h1, fun y η2 w H2 h2 e2 R2 r2 => ?_⟩⟩
  split at h2
  · obtain ⟨kk, z, hk, hz, h2⟩ := h2
    obtain ⟨a, ws, rfl, n, q, rr⟩ := (r1.car e2.car).dic_
    obtain ⟨u, hu, ru⟩ := (rr.val kk).1 z hz
    obtain rfl := dkey_rep r2 hk
    exact ⟨a, u, rfl, by rw [← hu]; exact .k q, k _ _ _ _ h2 (e1.trans e2) R2 ru⟩
  · cases h2
def rInD (neg : Bool) : R2p := fun x y P => match y with
  | .dic kvs => ∃ k, dkey x = some k ∧ P (.bl (if neg then !(valP kvs k).isSome else (valP kvs k).isSome))
  | _ => False
theorem dget_of {K : PySem.W.Frag} {O : Addr → Prop} {H : Hp} {kvs : List (Key × PV)} {ws : List (Key × V)} {a : Addr} {k : Key} (q : H a = some (.dK ws)) (rr : RepD K O H kvs ws) : ∃ o, DGet H a (kV k) o ∧ o.isSome = (valP kvs k).isSome := by
  refine ⟨valV ws k, .k q, ?_⟩
  cases e : valP kvs k with
  | none => rw [(rr.val k).2 e]; rfl
  | some z =>
    obtain ⟨u, hu, _⟩ := (rr.val k).1 z e
    rw [hu]; rfl
theorem zo_inD (hu : X.A.units + 1 < cLine) : OpR X (compareOp .In) (r2 X.K (rInD false)) := by
  intro pins s σ H x y v u Q I rx ry h
  obtain ⟨O, px, py, P, tr, hx, hy, h, k⟩ := h
  unfold rInD at h
  split at h
  · obtain ⟨kk, hk, h⟩ := h
    obtain ⟨a, ws, rfl, n, q, rr⟩ := hy.dic_
    obtain rfl := dkey_rep hx hk
    obtain ⟨o, g, eo⟩ := dget_of q rr (k := kk)
    cases ry
    exact d_in hu I g rx fun s' I' => ⟨.bl o.isSome, H, I', rfl, by rw [eo]; exact k.bl h⟩
  · cases h
def tDPutP (i : Nat) (ti te : TEp) : TSp := fun D η => te η fun x η1 => (∃ o, η1[i]? = some (Sl.ow o)) ∧ ti η1 fun y η2 => match η2[i]? with
  | some (.ow (.d kvs)) => ∃ k, dkey y = some k ∧ kvs.length < sizeLine ∧ D.nx (η2.set i (.ow (.d (putP kvs k x))))
  | _ => False
theorem z_dput {value : Expr} {pos' : Pos} (hu : X.A.units + 1 < cLine) (ho : PE X o (tVar i)) (hi : PE X b (up X.K T ti)) (hv : PE X value (up X.K T te)) (hs : swapsWith value (some (.Subscript o b pos')) pos.line X.env = pure false := by rfl) :
    PS X (.Assign [.Subscript o b pos'] value pos) (upS X.K T (tDPutP i ti te)) := by
  refine PS.weak (ps_dput hu ho hi hv hs) fun D σ H q => ?_
  obtain ⟨F, η, D', R, h, k1, k2, k3, k4⟩ := q
  refine ⟨F, η, _, R, h, fun x η1 v H1 h1 e1 R1 r1 => ?_⟩
  obtain ⟨⟨oo, ho⟩, h1⟩ := h1
  obtain ⟨b0, hw, _, _⟩ := R1.ow i _ ho
  refine ⟨_, hw, F, η1, _, R1, h1, fun y η2 u H2 h2 e2 R2 r2 => ?_⟩
  split at h2
  · rename_i kvs e
    obtain ⟨kk, hk, hl, h2⟩ := h2
    obtain ⟨a, s, ⟨ws, q1, q2⟩, nf⟩ := R2.ow i _ e
    rw [hw] at s; cases s
    obtain rfl := dkey_rep r2 hk
    have rr := r1.car e2.car
    obtain ⟨W, E⟩ := R2.write (o' := .d (putP kvs kk x)) (u := .dK (putK ws kk v)) e hw q1 nofun nofun nofun fun c => ⟨_, upd_same, (q2.put kk rr).car c⟩
    exact ⟨b0, _, rfl, .k q1 (by rw [q2.len]; exact hl), k1 _ _ _ h2 ((e1.trans e2).trans E) W⟩
  · cases h2
def rSortK : R1p := fun ps P => match ps with
  | [.dic kvs] => ∃ ks : List Str, kvs.map (·.1) = ks.map Sum.inr ∧ ks.length < 64 ∧ ∀ ys : List Str, ys.Perm ks → sortedS ys = true → P (.lst (ys.map PV.str))
  | _ => False
theorem reps_strs {K : PySem.W.Frag} {O H} : ∀ {ys : List Str}, Reps K O H (ys.map PV.str) (ys.map V.str)
  | [] => .nil
  | y :: ys => .cons rep_str reps_strs
theorem zc_sortK (hc : X.calm = true) : CallR X (.builtin "sorted") (r1 X.K rSortK) := by
  refine CallR.weak (call_sortedD hc) fun xs H Q h => ?_
  obtain ⟨O, ps, P, tr, hx, h, k⟩ := h
  unfold rSortK at h
  split at h
  · obtain ⟨ks, e, hl, h⟩ := h
    obtain ⟨v, rfl, r⟩ := hx.one
    obtain ⟨a, ws, rfl, n, q, rr⟩ := r.dic_
    exact ⟨a, ws, ks, rfl, .inl q, by rw [rr.keys]; exact e, hl, fun ys p h1 h2 hp => k.newL (h ys h1 h2) tr reps_strs hp⟩
  · cases h
end
end Z
set_option Elab.async false
set_option linter.all false
set_option maxRecDepth 100000
/-! calls that read own lists and dicts, which stay own -/
namespace Z
open PySem PySem.Spec L2
open PyProof.Rows hiding St
inductive Ab where
  | v (x : PV) | b (i : Nat)
abbrev TAbp := EP' → (List Ab → EP' → Prop) → Prop
def RepB (K : PySem.W.Frag) (O : Addr → Prop) (H : Hp) (σ : St) : List Ab → List V → Prop
  | [], vs => vs = []
  | .v x :: r, vs => ∃ v us, vs = v :: us ∧ Rep K O H x v ∧ RepB K O H σ r us
  | .b i :: r, vs => ∃ a us, vs = .ref a :: us ∧ σ[i]? = some (some (V.ref a)) ∧ RepB K O H σ r us
def upAB (K : PySem.W.Frag) (T : List (Addr × Str)) (t : TAbp) : TA := fun σ H Q => ∃ F η P, Rs K T F σ η H ∧ t η P ∧ ∀ abs η' vs H', P abs η' → Ext σ η σ η' H H' → Rs K T F σ η' H' → RepB K (Oof F σ η') H' σ abs vs → Q vs H'
def tNilB : TAbp := fun η P => P [] η
def tConsBv (te : TEp) (t : TAbp) : TAbp := fun η P => te η fun x η1 => t η1 fun abs η2 => P (.v x :: abs) η2
def tConsBb (i : Nat) (t : TAbp) : TAbp := fun η P => (∃ o, η[i]? = some (Sl.ow o)) ∧ t η fun abs η1 => P (.b i :: abs) η1
def fillB (η : EP') : List Ab → Option (List PV)
  | [] => some []
  | .v x :: r => match fillB η r with
    | some xs => some (x :: xs)
    | none => none
  | .b i :: r => match η[i]?, fillB η r with
    | some (.ow o), some xs => some (frz o :: xs)
    | _, _ => none
def Bor (σ : St) (S : List Ab) (a : Addr) : Prop := ∃ i, Ab.b i ∈ S ∧ σ[i]? = some (some (V.ref a))
mutual
def tpV : PV → Bool
  | .tup xs => tpVs xs
  | .pln xs => tpVs xs
  | .non => true
  | .bl _ => true
  | .int _ => true
  | .str _ => true
  | _ => false
def tpVs : List PV → Bool
  | [] => true
  | x :: xs => tpV x && tpVs xs
end
section
variable {K : PySem.W.Frag} {O O' : Addr → Prop} {H H' : Hp}
mutual
theorem tpV_back (hB : ∀ a, O' a → ¬ O a → ∀ vs, ¬ Rd H a (.tup vs)) : ∀ (x : PV) (v : V), tpV x = true → Rep K O H x v → Rep K O' H x v
  | .tup xs, v, e, h => by
    obtain ⟨a, vs, rfl, t, r⟩ := h.tup_
    unfold tpV at e
    unfold Rep
    refine ⟨a, vs, rfl, ?_, tpVs_back hB xs vs e r⟩
    rcases t with ⟨n, q⟩ | t
    · exact .inl ⟨fun z => hB a z n vs q, q⟩
    · exact .inr t
  | .pln xs, v, e, h => by
    unfold tpV at e
    unfold Rep at h ⊢
    obtain ⟨a, vs, o, rfl, n, q, d, r⟩ := h
    exact ⟨a, vs, o, rfl, fun z => hB a z n vs (.inr ⟨o, q⟩), q, d, tpVs_back hB xs vs e r⟩
  | .non, _, _, h => by unfold Rep at h ⊢; exact h
  | .bl _, _, _, h => by unfold Rep at h ⊢; exact h
  | .int _, _, _, h => by unfold Rep at h ⊢; exact h
  | .str _, _, _, h => by unfold Rep at h ⊢; exact h
  | .lst _, _, e, _ => by unfold tpV at e; cases e
  | .scr _, _, e, _ => by unfold tpV at e; cases e
  | .ins _ _, _, e, _ => by unfold tpV at e; cases e
  | .dic _, _, e, _ => by unfold tpV at e; cases e
  | .raw _, _, e, _ => by unfold tpV at e; cases e
theorem tpVs_back (hB : ∀ a, O' a → ¬ O a → ∀ vs, ¬ Rd H a (.tup vs)) : ∀ (xs : List PV) (vs : List V), tpVs xs = true → Reps K O H xs vs → Reps K O' H xs vs
  | [], _, _, h => by rw [h.inv0]; exact .nil
  | x :: xs, _, e, h => by
    obtain ⟨v, us, rfl, r, t⟩ := h.inv
    unfold tpVs at e
    rw [Bool.and_eq_true] at e
    exact .cons (tpV_back hB x v e.1 r) (tpVs_back hB xs us e.2 t)
end
theorem fill_rep {T : List (Addr × Str)} {F : Addr → Prop} {σ : St} {η : EP'} {S : List Ab} (R : Rs K T F σ η H) : ∀ {abs : List Ab} {args : List PV} {vs : List V}, (∀ x ∈ abs, x ∈ S) → fillB η abs = some args → RepB K (Oof F σ η) H σ abs vs → Reps K (fun c => Oof F σ η c ∧ ¬ Bor σ S c) H args vs
  | [], _, _, _, e, h => by
    unfold fillB at e; cases e
    have h' : _ = [] := h
    rw [h']; exact .nil
  | .v x :: r, _, _, hS, e, h => by
    unfold fillB at e
    split at e
    · rename_i xs q
      cases e
      obtain ⟨v, us, rfl, r1, t⟩ := h
      exact .cons (r1.mono fun b z => z.1) (fill_rep R (fun y hy => hS y (List.mem_cons_of_mem _ hy)) q t)
    · cases e
  | .b i :: r, _, _, hS, e, h => by
    unfold fillB at e
    split at e
    · rename_i o xs q1 q2
      cases e
      obtain ⟨a, us, rfl, hs, t⟩ := h
      obtain ⟨a', s, w, nf⟩ := R.ow i o q1
      rw [hs] at s; cases s
      refine .cons ((w.mono fun b z => z.1).frz fun z => z.2 ⟨i, hS _ List.mem_cons_self, hs⟩) (fill_rep R (fun y hy => hS y (List.mem_cons_of_mem _ hy)) q2 t)
    · cases e
theorem fill_own {η : EP'} : ∀ {abs : List Ab} {args : List PV} {i : Nat}, fillB η abs = some args → Ab.b i ∈ abs → ∃ o, η[i]? = some (Sl.ow o)
  | [], _, _, _, h => by simp at h
  | .v x :: r, _, i, e, h => by
    unfold fillB at e
    split at e
    · rename_i xs q
      rcases List.mem_cons.mp h with h | h
      · cases h
      · exact fill_own q h
    · cases e
  | .b j :: r, _, i, e, h => by
    unfold fillB at e
    split at e
    · rename_i o xs q1 q2
      rcases List.mem_cons.mp h with h | h
      · cases h; exact ⟨o, q1⟩
      · exact fill_own q2 h
    · cases e
theorem bor_tup {T : List (Addr × Str)} {F : Addr → Prop} {σ : St} {η : EP'} {abs : List Ab} {args : List PV} (R : Rs K T F σ η H) (e : fillB η abs = some args) (g : Gr H H') {a : Addr} (h : Bor σ abs a) (vs : List V) : ¬ Rd H' a (.tup vs) := by
  obtain ⟨i, h1, h2⟩ := h
  obtain ⟨o, h3⟩ := fill_own e h1
  obtain ⟨b, q1, q2, q3⟩ := R.ow i o h3
  rw [h2] at q1; cases q1
  intro z
  cases o with
  | l xs =>
    obtain ⟨vs, q, _⟩ := q2
    have := g.keep _ _ q nofun
    rcases z with z | ⟨u, z⟩ <;> rw [this] at z <;> cases z
  | o C fs =>
    obtain ⟨dx, ws, q, _⟩ := q2
    have := g.keep _ _ q nofun
    rcases z with z | ⟨u, z⟩ <;> rw [this] at z <;> cases z
  | d kvs =>
    obtain ⟨ws, q, _⟩ := q2
    have := g.keep _ _ q nofun
    rcases z with z | ⟨u, z⟩ <;> rw [this] at z <;> cases z
end
section
variable {X : Cx} {T : List (Addr × Str)} {e : Expr} {es : List Expr} {te ta : TEp} {t : TAbp} {pos p : Pos} {k : Nat} {f : Addr} {fd : FuncData} {ps : List Str} {x : Str} {i : Nat}
theorem zb_nil : PA X [] (upAB X.K T tNilB) := by
  refine PA.weak pa_nil fun σ H Q q => ?_
  obtain ⟨F, η, P, R, h, k⟩ := q
  exact k [] η [] H h .refl R rfl
theorem zb_v (ha : PE X e (up X.K T ta)) (hr : PA X es (upAB X.K T t)) (hs : starEach (e :: es) X.env = (false, eval e X.env) :: starEach es X.env := by rfl) : PA X (e :: es) (upAB X.K T (tConsBv ta t)) := by
  refine PA.weak (pa_cons ha hr hs) fun σ H Q q => ?_
  obtain ⟨F, η, P, R, h, k⟩ := q
  refine ⟨F, η, _, R, h, fun x η1 v H1 h1 e1 R1 r1' => ⟨F, η1, _, R1, h1, fun y η2 w H2 h2 e2 R2' rw' => ?_⟩⟩
  exact k (.v x :: y) η2 (v :: w) H2 h2 (e1.trans e2) R2' ⟨v, w, rfl, r1'.car e2.car, rw'⟩
theorem zb_b (h : PE X e (tVar i)) (hr : PA X es (upAB X.K T t)) (hs : starEach (e :: es) X.env = (false, eval e X.env) :: starEach es X.env := by rfl) : PA X (e :: es) (upAB X.K T (tConsBb i t)) := by
  refine PA.weak (pa_cons h hr hs) fun σ H Q q => ?_
  obtain ⟨F, η, P, R, ⟨⟨o, ho⟩, h⟩, k⟩ := q
  obtain ⟨a, hs, _, _⟩ := R.ow i o ho
  refine ⟨.ref a, hs, F, η, _, R, h, fun y η2 w H2 h2 e2 R2' rw' => ?_⟩
  exact k (.b i :: y) η2 (.ref a :: w) H2 h2 e2 R2' ⟨a, w, rfl, hs, rw'⟩
def tCallBP (sp : SpP) (t : TAbp) : TEp := fun η P => t η fun abs η1 => ∃ args, fillB η1 abs = some args ∧ sp args fun z => tpV z = true ∧ P z η1
theorem z_callB' {sp : SpP} (Fn : FnOk X.prog X.w X.K X.mg X.base CX0 k f fd ps (upSp X.K T sp)) (hr : Room k X.A) (hg : Gl X x) (hm : X.mg x = some (.ref f)) (hk : PySem.W.keepIn X.K (.ref f) = true) (hb : Binds X.K fd ps [])
    (ha : PA X (e :: es) (upAB X.K T t)) (hdb : (x == ("__debug__" : Str)) = false := by decide) (he : starEach (e :: es) X.env = (false, eval e X.env) :: starEach es X.env := by rfl) (hpl : (backTo pos (starEach es X.env)).any (·.1) = false := by rfl) :
    PE X (.Call (.Name x p) (e :: es) [] pos) (up X.K T (tCallBP sp t)) := by
  refine PE.weak (pe_call Fn hr hg hm hk hb .nil pass0 ha hdb he hpl) fun σ H Q q => ?_
  obtain ⟨F, η, P, R, h, k⟩ := q
  refine ⟨F, η, _, R, h, fun abs η1 vs H1 h1 e1 R1 r1 => ?_⟩
  obtain ⟨args, hf, h1⟩ := h1
  refine ⟨fun b => Oof F σ η1 b ∧ ¬ Bor σ abs b, args, _, fun b z => R1.trO b z.1, R1.tb, ?_, h1, fun z v H2 pz g tb rz => ?_⟩
  · rw [List.append_nil]
    exact fill_rep R1 (fun _ h => h) hf r1
  · refine k z η1 v H2 pz.2 (e1.trans g.ext) (R1.gr g tb) (tpV_back (fun a z n vs => ?_) z v pz.1 rz)
    exact bor_tup R1 hf g (Classical.byContradiction fun q => n ⟨z, q⟩) vs
def tCallFBP (sp : SpF) (t : TAbp) : TFp := fun η P => t η fun abs η1 => ∃ args, fillB η1 abs = some args ∧ sp args fun ys => tpVs ys = true ∧ P ys η1
theorem z_callFB {sp : SpF} (Fn : FnOk X.prog X.w X.K X.mg X.base CX0 k f fd ps (upSpF X.K T sp)) (hr : Room k X.A) (hg : Gl X x) (hm : X.mg x = some (.ref f)) (hk : PySem.W.keepIn X.K (.ref f) = true) (hb : Binds X.K fd ps [])
    (ha : PA X (e :: es) (upAB X.K T t)) (hdb : (x == ("__debug__" : Str)) = false := by decide) (he : starEach (e :: es) X.env = (false, eval e X.env) :: starEach es X.env := by rfl) (hpl : (backTo pos (starEach es X.env)).any (·.1) = false := by rfl) :
    PE X (.Call (.Name x p) (e :: es) [] pos) (upF X.K T (tCallFBP sp t)) := by
  refine PE.weak (pe_call Fn hr hg hm hk hb .nil pass0 ha hdb he hpl) fun σ H Q q => ?_
  obtain ⟨F, η, P, R, h, k⟩ := q
  refine ⟨F, η, _, R, h, fun abs η1 vs H1 h1 e1 R1 r1 => ?_⟩
  obtain ⟨args, hf, h1⟩ := h1
  refine ⟨fun b => Oof F σ η1 b ∧ ¬ Bor σ abs b, args, _, fun b z => R1.trO b z.1, R1.tb, ?_, h1, fun ys a us H2 pz g tb hn hv rz => ?_⟩
  · rw [List.append_nil]
    exact fill_rep R1 (fun _ h => h) hf r1
  · have hn0 : Nw H a := e1.nw hn
    have nF : ¬ F a := fun z => R.tr a z hn0
    have nO : ¬ Oof F σ η1 a := fun z => R1.trO a z hn
    have R2 : Rs X.K T F σ η1 H2 := R1.gr g tb
    have c : Car (Oof F σ η1) (Oof (With F a) σ η1) H1 H2 := fun b u n hb t => ⟨g.keep b u hb t, fun z => by
      rcases z with (z | z) | z
      · exact n (.inl z)
      · exact hn.no (by rw [← z]; exact hb) t
      · exact n (.inr z)⟩
    have R3 : Rs X.K T (With F a) σ η1 H2 := by
      refine ⟨R2.len, fun i y e => ?_, fun i o e => ?_, R2.nd, fun b z => ?_, tb⟩
      · obtain ⟨v, q1, q2⟩ := R1.va i y e
        exact ⟨v, q1, q2.car c⟩
      · obtain ⟨b, q1, q2, q3⟩ := R1.ow i o e
        refine ⟨b, q1, q2.car c ?_, fun z => z.elim q3 fun z => nO (by rw [← z]; exact .inr ⟨i, o, q1, e⟩)⟩
        cases o with
        | l xs => obtain ⟨vs, q, _⟩ := q2; rw [q]; exact g.keep _ _ q nofun
        | o C fs => obtain ⟨dx, ws, q, _⟩ := q2; rw [q]; exact g.keep _ _ q nofun
        | d kvs => obtain ⟨ws, q, _⟩ := q2; rw [q]; exact g.keep _ _ q nofun
      · rcases z with z | z
        · exact R2.tr b z
        · rw [z]; exact fun q => q.no hv nofun
    refine k ys η1 a us H2 pz.2 (e1.trans g.ext) R3 hn0 nF hv (tpVs_back (fun b z n vs => ?_) ys us pz.1 rz)
    rcases z with (z | z) | z
    · exact bor_tup R1 hf g (Classical.byContradiction fun q => n (.inl ⟨.inl z, q⟩)) vs
    · exact absurd (.inr z) n
    · exact bor_tup R1 hf g (Classical.byContradiction fun q => n (.inl ⟨.inr z, q⟩)) vs
end
/-! for over a variable that holds a list or a tuple -/
section
variable {X : Cx} {T : List (Addr × Str)} {e tg : Expr} {s : Nat}
theorem pi_or {t t' : TI} (h : PI X tg e t) (h' : PI X tg e t') : PI X tg e (fun σ H Q => t σ H Q ∨ t' σ H Q) := ⟨fun pins s σ H Q I q => q.elim (h.run pins s σ H Q I) (h'.run pins s σ H Q I)⟩
def iSeqP (s : Nat) : TIp := fun η P => match η[s]? with
  | some (.va (.lst xs)) => P xs η
  | some (.va (.tup xs)) => P xs η
  | _ => False
theorem zi_seq (h1 : PI X tg e (upI X.K T (iListP (tVarP s)))) (h2 : PI X tg e (upI X.K T (iTupP (tVarP s)))) : PI X tg e (upI X.K T (iSeqP s)) := by
  refine PI.weak (pi_or h1 h2) fun σ H Q q => ?_
  obtain ⟨F, η, P, R, h, k⟩ := q
  unfold iSeqP at h
  split at h
  · rename_i xs e
    exact .inl ⟨F, η, P, R, by show tVarP s η _; unfold tVarP; rw [e]; exact h, k⟩
  · rename_i xs e
    exact .inr ⟨F, η, P, R, by show tVarP s η _; unfold tVarP; rw [e]; exact h, k⟩
  · cases h
end
end Z
set_option Elab.async false
set_option linter.all false
set_option maxRecDepth 100000
/-! dict(plan); l.index(i); list(range(n)) -/
namespace Z
open PySem PySem.Spec L2
open PyProof.Rows hiding St
section
variable {X : Cx}
end
section
variable {X : Cx} {T : List (Addr × Str)} {e o a b : Expr} {es : List Expr} {te ta tb to ti : TEp} {t : TAp} {pos : Pos} {i : Nat}
theorem reps_ints {K : PySem.W.Frag} {O : Addr → Prop} {H : Hp} : ∀ {ns : List Int} {vs : List V}, Reps K O H (ns.map .int) vs → vs = ns.map V.int
  | [], _, h => h.inv0
  | n :: ns, _, h => by
    obtain ⟨v, us, rfl, r, t⟩ := h.inv
    rw [r.int_, reps_ints t]; rfl
theorem call_tuple_ofK : CallR X (.type "tuple") (fun xs H Q => ∃ p ys, xs = [.ref p] ∧ SqL X.K H p ys ∧ ∀ l o, H l = none → o.dict = none → Q (.ref l) (upd H l (.frz o (.tup ys)))) := by
  intro pins s σ H xs us Q I r h
  obtain ⟨p, ys, rfl, hq, q⟩ := h
  obtain ⟨u, rfl, rx⟩ := vals1 r
  cases rx
  obtain ⟨its, r', pl, hz⟩ := I.list hq
  have hlen := r'.length
  refine call_tuple_list pl.isList (fun h' kp => ?_) (by simp only [List.size_toArray] <;> omega)
  have I1 : Inv X pins σ H { s with heap := h' } := I.kept (t' := s.toks) kp
  have I2 : Inv X pins σ (upd H h'.objs.size (.frz { cls := .type "tuple", data := .seq its.toArray } (.tup ys))) { s with heap := h'.push { cls := .type "tuple", data := .seq its.toArray } } :=
    I1.laid (t' := s.toks) (fun b o e => Heap.get?_push_of_some _ e) (Nat.le_refl _) (show ObjOk X.prog X.w _ _ _ (.frz _ (.tup ys)) from ⟨Heap.get?_push_size _ rfl, hz, its, r', IsTup.new _ _⟩)
  exact ⟨.ref h'.objs.size, _, I2, rfl, q _ _ (I1.hok.fresh (Nat.le_refl _)) rfl⟩
def rTupleK : R1p := fun ps P => match ps with
  | [.lst xs] => P (.pln xs)
  | _ => False
theorem zc_tupleK : CallR X (.type "tuple") (r1 X.K rTupleK) := by
  refine CallR.weak (call_tuple_ofK (X := X)) fun xs H Q h => ?_
  obtain ⟨O, ps, P, tr, hx, h, k⟩ := h
  unfold rTupleK at h
  split at h
  · obtain ⟨v, rfl, r⟩ := hx.one
    obtain ⟨a, vs, rfl, n, q, rr⟩ := r.lst_
    refine ⟨a, vs, rfl, SqL.of q, fun l o hl hd => k _ _ _ h (Same.new hl) ?_⟩
    unfold Rep
    exact ⟨l, vs, o, rfl, tr.fresh hl, upd_same, hd, rr.car (Car.same (Same.new hl))⟩
  · cases h
end
end Z
set_option Elab.async false
set_option linter.all false
set_option maxRecDepth 100000
namespace Z
open PySem PySem.Spec L2
open PyProof.Rows hiding St
/-! ### plans of the program -/
abbrev Pair := Str × Int
abbrev Seat := Trip × Int
def pairS (p : Pair) : PV := .tup [.str p.1, .int p.2]
def planV (ps : List Pair) : PV := .tup (ps.map pairS)
def seatPair (x : Seat) : Pair := (x.1.1, x.2)
def AscP (ps : List Pair) : Prop := ps.Pairwise fun a b => a.1.cps.toList < b.1.cps.toList
def takenL (r : Trip) (sd : List Seat) : List Int := (sd.filter fun x => meetB r x.1).map fun x => x.2
def upto (n : Int) : List Int := (List.range n.toNat).map fun (i : Nat) => 1 + (i : Int)
def leftL (n : Int) (r : Trip) (sd : List Seat) : List Int := (upto n).filter fun s => !decide (s ∈ takenL r sd)
abbrev PrF := PySem.W.Frag → Addr → SpF
section
variable {K : PySem.W.Frag} {C : Addr} {args : List PV} {P : PV → Prop} {PR : PV → Ow → Prop} {PF : List PV → Prop} {o : Ow}
end
end Z
set_option Elab.async false
set_option linter.all false
set_option maxRecDepth 100000
namespace Z
open PySem PySem.Spec L2
open PyProof.Rows hiding St
/-! ### what is not in a list of ints -/
theorem flVs_ints : ∀ ns : List Int, flVs (ns.map .int) = some (ns.map V.int)
  | [] => rfl
  | w :: ws => by rw [List.map_cons, flVs, flVs_ints ws]; rfl
theorem inV_ints (x : Int) : ∀ ns : List Int, inV (.int x) (ns.map V.int) = decide (x ∈ ns)
  | [] => rfl
  | w :: ws => by
    have e : inV (.int x) ((w :: ws).map V.int) = (decide (x = w) || inV (.int x) (ws.map V.int)) := by
      show (List.any _ _) = _
      rw [List.map_cons, List.any_cons]
      congr 1
      by_cases h : x = w
      · subst h; simp [eqV]
      · have h' : w ≠ x := fun z => h z.symm
        simp [eqV, h, h']
    rw [e, inV_ints x ws]
    by_cases h : x = w <;> simp [h]
theorem q_notInI {x : Int} {ws : List Int} {Q : PV → Prop} (h : Q (.bl (!decide (x ∈ ws)))) : rInL true (.int x) (.lst (ws.map .int)) Q := ⟨_, _, _, rfl, rfl, flVs_ints ws, by rw [if_pos rfl, inV_ints]; exact h⟩
/-! ### lists of pairs -/
/-! ### digits -/
/-! ### seats that are left -/
theorem upto_mem {n s : Int} : s ∈ upto n ↔ 1 ≤ s ∧ s ≤ n := by
  unfold upto
  rw [List.mem_map]
  constructor
  · rintro ⟨i, hi, rfl⟩
    have := List.mem_range.mp hi
    omega
  · rintro ⟨h1, h2⟩
    exact ⟨(s - 1).toNat, List.mem_range.mpr (by omega), by omega⟩
theorem upto_nodup (n : Int) : (upto n).Nodup := by
  unfold upto List.Nodup
  refine List.pairwise_map.mpr (List.nodup_range.imp fun {a b} h e => ?_)
  omega
theorem upto_len {n : Int} (h : 0 ≤ n) : ((upto n).length : Int) = n := by
  unfold upto
  rw [List.length_map, List.length_range]
  omega
theorem left_mem {n s : Int} {r : Trip} {sd : List Seat} : s ∈ leftL n r sd ↔ (1 ≤ s ∧ s ≤ n) ∧ s ∉ takenL r sd := by
  unfold leftL
  rw [List.mem_filter, upto_mem]
  simp
theorem drop1 (t : Int) (p : Int → Bool) : ∀ {l : List Int}, l.Nodup → (l.filter p).length ≤ (l.filter fun x => p x && !decide (x = t)).length + 1
  | [], _ => by simp
  | x :: l, h => by
    obtain ⟨h1, h2⟩ := List.nodup_cons.mp h
    have ih := drop1 t p h2
    by_cases e : x = t
    · have same : (l.filter fun y => p y && !decide (y = t)) = l.filter p := List.filter_congr fun y hy => by
        have : y ≠ t := fun z => h1 (by rw [e, ← z]; exact hy)
        simp [this]
      rw [List.filter_cons, List.filter_cons, same, e]
      cases p t <;> simp
    · rw [List.filter_cons, List.filter_cons]
      cases hp : p x with
      | true => simp only [hp, e, decide_false, Bool.not_false, Bool.and_true, if_true, List.length_cons]; omega
      | false => simpa [hp] using ih
theorem drops {l : List Int} (h : l.Nodup) : ∀ T : List Int, l.length ≤ (l.filter fun x => !decide (x ∈ T)).length + T.length
  | [] => by
    have : (l.filter fun x => !decide (x ∈ ([] : List Int))) = l := List.filter_eq_self.mpr fun x _ => by simp
    rw [this]; omega
  | t :: T => by
    have ih := drops h T
    have := drop1 t (fun x => !decide (x ∈ T)) h
    have e : (l.filter fun x => !decide (x ∈ t :: T)) = l.filter fun x => !decide (x ∈ T) && !decide (x = t) := List.filter_congr fun x _ => by
      by_cases a : x = t <;> by_cases b : x ∈ T <;> simp [a, b]
    rw [e, List.length_cons]
    omega
theorem left_len {n : Int} {r : Trip} {sd : List Seat} (h : 0 ≤ n) : n - ((sd.filter fun x => meetB r x.1).length : Int) ≤ ((leftL n r sd).length : Int) := by
  have h1 := drops (upto_nodup n) (takenL r sd)
  have h2 := upto_len h
  have h3 : (takenL r sd).length = (sd.filter fun x => meetB r x.1).length := by unfold takenL; rw [List.length_map]
  unfold leftL
  omega
def GoodS (n : Int) (sd : List Seat) : Prop := (sd.Pairwise fun x y => meetB y.1 x.1 = true → x.2 ≠ y.2) ∧ ∀ x ∈ sd, 1 ≤ x.2 ∧ x.2 ≤ n
theorem good_snoc {n s : Int} {r : Trip} {sd : List Seat} (g : GoodS n sd) (h : s ∈ leftL n r sd) : GoodS n (sd ++ [(r, s)]) := by
  obtain ⟨h1, h2⟩ := left_mem.mp h
  refine ⟨List.pairwise_append.mpr ⟨g.1, List.pairwise_singleton _ _, fun x hx y hy => ?_⟩, fun x hx => ?_⟩
  · rw [List.mem_singleton.mp hy]
    intro hm e
    exact h2 (by unfold takenL; exact List.mem_map.mpr ⟨x, List.mem_filter.mpr ⟨hx, hm⟩, e⟩)
  · rcases List.mem_append.mp hx with z | z
    · exact g.2 x z
    · rw [List.mem_singleton.mp z]; exact h1
theorem getD_memS {α : Type} {l : List α} {i : Nat} {d : α} (h : i < l.length) : l.getD i d ∈ l := by
  rw [List.getD_eq_getElem?_getD, List.getElem?_eq_getElem h]
  exact List.getElem_mem h
theorem over_pos {n : Int} {rs : List Trip} (hw : Rw rs) (ho : overR n rs = none) : ∀ i, i < (queueT rs).length → 1 ≤ szAt n (queueT rs) i := fun i hil => by
  have hr : (queueT rs)[i]? = some (queueT rs)[i] := List.getElem?_eq_getElem hil
  generalize (queueT rs)[i] = r at hr
  rw [szAt_eq hr]
  have hm := List.mem_of_getElem? hr
  obtain ⟨_, _, rlt⟩ := hw.each r ((queue_perm rs).mem_iff.mp hm)
  have hno : ¬ n < loadN rs r.2.1 := by
    have := List.find?_eq_none.mp ho r hm
    simpa using this
  rw [load_queue] at hno
  obtain ⟨_, er⟩ := List.getElem?_eq_some_iff.mp hr
  have sp : queueT rs = (queueT rs).take i ++ r :: (queueT rs).drop (i + 1) := by rw [← er, List.getElem_cons_drop, List.take_append_drop]
  have up := queue_up rs
  rw [sp] at up
  have h3 : ∀ u ∈ (queueT rs).take i, meetB r u = true → passes r.2.1 u = true := fun u hu hmu => by
    have := (List.pairwise_append.mp up).2.2 u hu r List.mem_cons_self
    unfold meetB at hmu
    unfold passes
    rw [Bool.and_eq_true, decide_eq_true_iff, decide_eq_true_iff] at *
    exact ⟨this, hmu.1⟩
  have h4 : ((queueT rs).take i).countP (meetB r) ≤ ((queueT rs).take i).countP (passes r.2.1) := List.countP_mono_left h3
  rw [List.countP_eq_length_filter, List.countP_eq_length_filter] at h4
  have h5 : passes r.2.1 r = true := by
    unfold passes
    rw [decide_eq_true (Int.le_refl _), decide_eq_true rlt]; rfl
  have h6 : ((queueT rs).filter (passes r.2.1)).length = (((queueT rs).take i).filter (passes r.2.1)).length + (((queueT rs).drop (i + 1)).filter (passes r.2.1)).length + 1 := by
    conv => lhs; rw [sp, List.filter_append, List.filter_cons_of_pos h5, List.length_append, List.length_cons]
    omega
  omega
section
variable {K : PySem.W.Frag} {C : Addr} {args : List PV} {P : PV → Prop} {PR : PV → Ow → Prop} {PF : List PV → Prop} {o : Ow}
theorem w_seqF {t : TSp} {u : TFp} {η : EP'} {Q : List PV → EP' → Prop} (h : t { nx := fun η' => u η' Q, rt := fun _ _ => False } η) : tSeqFP t u η Q := h
theorem w_gpS {a b : PV} {i j : Nat} {η : EP'} {R : EP' → Prop} (h : R ((η.set i (.va a)).set j (.va b))) : gTupP 2 (gConsP (gNameP i) (gConsP (gNameP j) (gNilP))) (.tup [a, b]) η R := ⟨rfl, rfl, h⟩
theorem w_rngS {te tb : TEp} {η : EP'} {Q : List PV → EP' → Prop} (h : te η fun x η1 => tb η1 fun y η2 => match x, y with
  | .int i, .int j => -(2 ^ 62) ≤ i ∧ i < 2 ^ 62 ∧ -(2 ^ 62) ≤ j ∧ j < 2 ^ 62 ∧ Q (rangeP i (j - i).toNat) η2
  | _, _ => False) : iRng2P te tb η Q := h
theorem w_zipT {t : TAp} {η : EP'} {Q : List PV → EP' → Prop} (h : t η fun zs η1 => match zs with
  | [.tup xs, .tup ys] => Q (zipP xs ys) η1
  | [.lst xs, .lst ys] => Q (zipP xs ys) η1
  | _ => False) : iZipP t η Q := h
end
end Z
set_option Elab.async false
set_option linter.all false
set_option maxRecDepth 100000
namespace Z
open PySem PySem.Spec L2
open PyProof.Rows hiding St
/-! ### plans: what they are, cut down -/
theorem meet_commS (a b : Trip) : meetB a b = meetB b a := by
  unfold meetB
  rw [Bool.and_comm]
theorem name_inj {rs : List Trip} (hw : Rw rs) {a b : Trip} (ha : a ∈ rs) (hb : b ∈ rs) (e : a.1 = b.1) : a = b := by
  have h1 := named_in hw ha
  rw [e, named_in hw hb] at h1
  unfold rowP at h1
  injection h1 with h1
  injection h1 with h2 h3
  injection h3 with h3 h4
  injection h4 with h4 h5
  injection h2 with h2
  injection h3 with h3
  injection h4 with h4
  exact Prod.ext h2.symm (Prod.ext h3.symm h4.symm)
theorem perm_lift {α β : Type} (f : α → β) {l k : List β} (h : l.Perm k) : ∀ m : List α, m.map f = k → ∃ m' : List α, m'.Perm m ∧ m'.map f = l := by
  induction h with
  | nil => exact fun m e => ⟨m, .refl _, e⟩
  | cons x h ih =>
    intro m e
    cases m with
    | nil => cases e
    | cons a m =>
      rw [List.map_cons] at e
      injection e with e1 e2
      obtain ⟨m', p, q⟩ := ih m e2
      exact ⟨a :: m', p.cons a, by rw [List.map_cons, e1, q]⟩
  | swap x y l =>
    intro m e
    match m, e with
    | a :: b :: m, e =>
      rw [List.map_cons, List.map_cons] at e
      injection e with e1 e2
      injection e2 with e2 e3
      exact ⟨b :: a :: m, .swap a b m, by rw [List.map_cons, List.map_cons, e1, e2, e3]⟩
    | [], e => cases e
    | [_], e => rw [List.map_cons] at e; injection e with _ e; cases e
  | trans h1 h2 ih1 ih2 =>
    intro m e
    obtain ⟨m1, p1, q1⟩ := ih2 m e
    obtain ⟨m2, p2, q2⟩ := ih1 m1 q1
    exact ⟨m2, p2.trans p1, q2⟩
def PlanOk (n : Int) (rs : List Trip) (ps : List Pair) : Prop := ∃ sd : List Seat, sd.map (·.1) = rs ∧ sd.map seatPair = ps ∧ GoodS n sd
theorem good_perm {n : Int} {a b : List Seat} (p : a.Perm b) (g : GoodS n b) : GoodS n a :=
  ⟨(p.pairwise_iff fun {x y} h hm e => h (by rw [meet_commS]; exact hm) e.symm).mpr g.1, fun x hx => g.2 x (p.mem_iff.mp hx)⟩
theorem planok_of {n : Int} {rs : List Trip} {ps : List Pair} {sd0 : List Seat} (hw : Rw rs) (hf : (sd0.map (·.1)).Perm rs) (g : GoodS n sd0) (pp : ps.Perm (sd0.map seatPair)) (pa : AscP ps) : PlanOk n rs ps := by
  obtain ⟨sd, p, q⟩ := perm_lift seatPair pp sd0 rfl
  refine ⟨sd, perm_asc ((p.map _).trans hf) ?_ hw.asc, q, good_perm p g⟩
  rw [← q] at pa
  exact List.pairwise_map.mpr ((List.pairwise_map (f := seatPair) (R := fun a b : Pair => a.1.cps.toList < b.1.cps.toList)).mp pa)
/-! ### lines less a trip -/
/-! ### sizes, one behind the other -/
end Z
set_option Elab.async false
set_option linter.all false
set_option maxRecDepth 100000
namespace Z
open PySem PySem.Spec L2
open PyProof.Rows hiding St
/-! ### all plans: by their numbers, by their seats -/
/-! digits -/
/-! seats that are left, how many -/
theorem taken_nodup {n : Int} {r : Trip} {sd : List Seat} (g : GoodS n sd) (hp : ∀ x ∈ sd, x.1.2.1 ≤ r.2.1) : (takenL r sd).Nodup := by
  unfold takenL List.Nodup
  refine List.pairwise_map.mpr ((g.1.sublist List.filter_sublist).imp_of_mem fun {x y} hx hy h => h ?_)
  obtain ⟨x1, x2⟩ := List.mem_filter.mp hx
  obtain ⟨y1, y2⟩ := List.mem_filter.mp hy
  unfold meetB at x2 y2 ⊢
  rw [Bool.and_eq_true, decide_eq_true_iff, decide_eq_true_iff] at x2 y2 ⊢
  have := hp x x1
  have := hp y y1
  omega
theorem left_exact {n : Int} {r : Trip} {sd : List Seat} (h0 : 0 ≤ n) (g : GoodS n sd) (hp : ∀ x ∈ sd, x.1.2.1 ≤ r.2.1) : ((leftL n r sd).length : Int) = n - ((sd.filter fun x => meetB r x.1).length : Int) := by
  have h1 := left_len (r := r) (sd := sd) h0
  have h2 := upto_len h0
  have h3 : (takenL r sd).length = (sd.filter fun x => meetB r x.1).length := by unfold takenL; rw [List.length_map]
  have h4 := (taken_nodup g hp).length_le_of_subset (l₂ := (upto n).filter fun s => decide (s ∈ takenL r sd)) fun s hs => by
    refine List.mem_filter.mpr ⟨upto_mem.mpr ?_, decide_eq_true hs⟩
    unfold takenL at hs
    obtain ⟨x, hx, rfl⟩ := List.mem_map.mp hs
    exact g.2 x (List.mem_filter.mp hx).1
  have h5 := (List.filter_append_perm (fun s => decide (s ∈ takenL r sd)) (upto n)).length_eq
  rw [List.length_append] at h5
  have h6 : ((upto n).filter fun s => !decide (s ∈ takenL r sd)) = leftL n r sd := rfl
  rw [h6] at h5
  omega
/-! all ways to seat a queue -/
/-! plans by name -/
def nameLe (a b : Pair) : Bool := decide (a.1.cps.toList ≤ b.1.cps.toList)
def planOf (t : List Seat) : List Pair := (t.map seatPair).mergeSort nameLe
theorem nameLe_trans (a b c : Pair) (h1 : nameLe a b = true) (h2 : nameLe b c = true) : nameLe a c = true := by
  unfold nameLe at *
  rw [decide_eq_true_iff] at *
  exact List.le_trans h1 h2
theorem nameLe_total (a b : Pair) : (nameLe a b || nameLe b a) = true := by
  unfold nameLe
  rw [Bool.or_eq_true, decide_eq_true_iff, decide_eq_true_iff]
  exact List.le_total _ _
theorem planOf_perm (t : List Seat) : (planOf t).Perm (t.map seatPair) := List.mergeSort_perm _ _
theorem str_ext {a b : Str} (h : a.cps.toList = b.cps.toList) : a = b := by
  have : a.cps = b.cps := Array.toList_inj.mp h
  cases a; cases b; simp at this; rw [this]
theorem planOf_asc {t : List Seat} (hn : (t.map fun x => x.1.1).Nodup) : AscP (planOf t) := by
  have hp := planOf_perm t
  have h1 : (planOf t).Pairwise fun a b => nameLe a b = true := List.pairwise_mergeSort nameLe_trans nameLe_total _
  have h2 : ((planOf t).map (·.1)).Nodup := by
    rw [(hp.map _).nodup_iff, List.map_map]; exact hn
  refine (h1.and (List.pairwise_map.mp h2)).imp fun {a b} p => ?_
  obtain ⟨p1, p2⟩ := p
  unfold nameLe at p1
  rw [decide_eq_true_iff] at p1
  refine Classical.byContradiction fun nb => p2 (str_ext (List.le_antisymm p1 (List.not_lt.mp nb)))
theorem ascP_uniq {a b : List Pair} (p : a.Perm b) (ha : AscP a) (hb : AscP b) : a = b :=
  p.eq_of_pairwise (le := fun a b : Pair => a.1.cps.toList < b.1.cps.toList) (fun x y _ _ h1 h2 => absurd h1 (List.lt_asymm h2)) ha hb
/-! all ways to give a seat to each trip -/
/-! their order -/
/-! the good ones -/
theorem fst_nodup {t : List Seat} {rs : List Trip} (hw : Rw rs) (p : (t.map (·.1)).Perm rs) : (t.map fun x => x.1.1).Nodup := by
  have e : (t.map fun x => x.1.1) = (t.map (·.1)).map (·.1) := by rw [List.map_map]; rfl
  rw [e, (p.map _).nodup_iff]; exact asc_nodup hw
end Z
set_option Elab.async false
set_option linter.all false
set_option maxRecDepth 100000
/-! list(zip(a, b)) of lists -/
namespace Z
open PySem PySem.Spec L2
open PyProof.Rows hiding St
structure ZSt (z TI TO i1 i2 l1 l2 S : Addr) (xs ys : Array Value) (i : Nat) (h : Heap) : Prop where
  ti : IsPair h TI (.ref i1) (.ref i2)
  h1 : h.IsListIter i1 l1 i
  h2 : h.IsListIter i2 l2 i
  l1 : h.IsList l1 xs
  l2 : h.IsList l2 ys
  to : ∃ o, h.get? TO = some o
  z : (IsZip h z TI TO .none ∧ ∃ a b, IsPair h TO a b) ∨ ∃ T f oT, IsZipHeld h z TI TO T f ∧ h.get? T = some oT ∧ T ≠ z ∧ T ≠ i1 ∧ T ≠ i2 ∧ T ≠ S
section
variable {prog : Program} {w : World} {A : Around} {E : Value → Shared → Prop} {s : Shared} {z TI TO i1 i2 l1 l2 S : Addr} {xs ys : Array Value} {i : Nat}
theorem ZSt.type (st : ZSt z TI TO i1 i2 l1 l2 S xs ys i s.heap) : s.TypeIs (.ref z) "zip" := by
  rcases st.z with ⟨hz, _⟩ | ⟨T, f, oT, hz, _⟩
  · exact ⟨_, hz, rfl⟩
  · exact ⟨_, hz, rfl⟩
theorem ZSt.frame {h h' : Heap} (st : ZSt z TI TO i1 i2 l1 l2 S xs ys i h) (dS : S ≠ z ∧ S ≠ TI ∧ S ≠ TO ∧ S ≠ i1 ∧ S ≠ i2 ∧ S ≠ l1 ∧ S ≠ l2) (hk : ∀ b o, b ≠ S → h.get? b = some o → h'.get? b = some o) : ZSt z TI TO i1 i2 l1 l2 S xs ys i h' := by
  obtain ⟨hTI, h1, h2, hl1, hl2, ⟨oTO, hto⟩, hz⟩ := st
  obtain ⟨dz, dTI, dTO, di1, di2, dl1, dl2⟩ := dS
  refine ⟨hk _ _ (Ne.symm dTI) hTI, h1.at fun o e => hk _ o (Ne.symm di1) e, h2.at fun o e => hk _ o (Ne.symm di2) e, hl1.at fun o e => hk _ o (Ne.symm dl1) e, hl2.at fun o e => hk _ o (Ne.symm dl2) e, ⟨oTO, hk _ _ (Ne.symm dTO) hto⟩, ?_⟩
  rcases hz with ⟨hz, a, b, hTO⟩ | ⟨T, f, oT, hz, hT, r1, r2, r3, r4⟩
  · exact .inl ⟨hk _ _ (Ne.symm dz) hz, a, b, hk _ _ (Ne.symm dTO) hTO⟩
  · exact .inr ⟨T, f, oT, hk _ _ (Ne.symm dz) hz, hk _ _ r4 hT, r1, r2, r3, r4⟩
theorem ZSt.item {x y : Value} {Q : Option Value → Shared → Prop} (st : ZSt z TI TO i1 i2 l1 l2 S xs ys i s.heap) (D : ZipApart z TI TO i1 i2 l1 l2) (hS : S < s.heap.objs.size) (ex : xs[i]? = some x) (ey : ys[i]? = some y)
    (hQ : ∀ h', IsPair h' s.heap.objs.size x y → ZSt z TI TO i1 i2 l1 l2 S xs ys (i + 1) h' → (∀ b o, b ∉ [z, TI, TO, i1, i2] → s.heap.get? b = some o → h'.get? b = some o) → Q (some (.ref s.heap.objs.size)) { s with heap := h' }) :
    wpAny (model prog w) A (pyNext (.ref z)) Q E s := by
  obtain ⟨hTI, h1, h2, hl1, hl2, ⟨oTO, hto⟩, hz⟩ := st
  have lt : ∀ {c o}, s.heap.get? c = some o → s.heap.objs.size ≠ c := fun e => Nat.ne_of_gt (Heap.lt_size e)
  have n1 : s.heap.objs.size ≠ i1 := let ⟨_, e, _⟩ := h1; lt e
  have n2 : s.heap.objs.size ≠ i2 := let ⟨_, e, _⟩ := h2; lt e
  rcases hz with ⟨hz, a, b, hTO⟩ | ⟨T, f, oT, hz, hT, r1, r2, r3, r4⟩
  · refine wpAny_pyNext_zip_item D hz hTI hTO h1 h2 hl1 hl2 ex ey fun h' a1 a2 a3 a4 a5 a6 hk => ?_
    exact hQ h' a5 ⟨hk _ _ D.TIz D.TITO D.TIi1 D.TIi2 hTI, a3, a4, hl1.at fun o e => hk _ o D.l1z D.l1TO D.l1i1 D.l1i2 e, hl2.at fun o e => hk _ o D.l2z D.l2TO D.l2i1 D.l2i2 e, ⟨_, a2⟩,
        .inr ⟨s.heap.objs.size, false, _, a1, a5, lt hz, n1, n2, Nat.ne_of_gt hS⟩⟩
      fun c o hc e => hk c o (fun x => hc (by simp [x])) (fun x => hc (by simp [x])) (fun x => hc (by simp [x])) (fun x => hc (by simp [x])) e
  · refine wpAny_pyNext_zip_item_held D hz hT hTI h1 h2 hl1 hl2 ex ey fun h' a1 a3 a4 a5 a6 hk => ?_
    exact hQ h' a5 ⟨hk _ _ D.TIz D.TIi1 D.TIi2 hTI, a3, a4, hl1.at fun o e => hk _ o D.l1z D.l1i1 D.l1i2 e, hl2.at fun o e => hk _ o D.l2z D.l2i1 D.l2i2 e, ⟨oTO, hk _ _ D.TOz D.TOi1 D.TOi2 hto⟩,
        .inr ⟨T, true, oT, a1, hk _ _ r1 r2 r3 hT, r1, r2, r3, r4⟩⟩
      fun c o hc e => hk c o (fun x => hc (by simp [x])) (fun x => hc (by simp [x])) (fun x => hc (by simp [x])) e
theorem ZSt.done {Q : Option Value → Shared → Prop} (st : ZSt z TI TO i1 i2 l1 l2 S xs ys i s.heap) (D : ZipApart z TI TO i1 i2 l1 l2) (hh : A.handled = none) (hend : xs[i]? = none ∨ ys[i]? = none)
    (hQ : ∀ h', (∀ b o, b ∉ [z, TI, TO, i1, i2] → s.heap.get? b = some o → h'.get? b = some o) → Q none { s with heap := h' }) :
    wpAny (model prog w) A (pyNext (.ref z)) Q E s := by
  obtain ⟨hTI, h1, h2, hl1, hl2, ⟨oTO, hto⟩, hz⟩ := st
  rcases hz with ⟨hz, a, b, hTO⟩ | ⟨T, f, oT, hz, hT, r1, r2, r3, r4⟩
  · exact wpAny_pyNext_zip_end hh D hz hTI hTO h1 h2 hl1 hl2 hend fun h' hk => hQ h' fun c o hc e => hk c o (fun x => hc (by simp [x])) (fun x => hc (by simp [x])) (fun x => hc (by simp [x])) (fun x => hc (by simp [x])) e
  · exact wpAny_pyNext_zip_end_held hh D hz hT hTI h1 h2 hl1 hl2 hend fun h' hk => hQ h' fun c o hc e => hk c o (fun x => hc (by simp [x])) (fun x => hc (by simp [x])) (fun x => hc (by simp [x])) e
end
section
variable {X : Cx} {pins : List (Addr × Obj)} {σ : St} {A : Around} {R : Result → Shared → Prop} {z TI TO i1 i2 l1 l2 S : Addr} {its1 its2 : List Value} {vs us : List V}
end
theorem Reps.of_get {K : PySem.W.Frag} {O : Addr → Prop} {H : Hp} : ∀ {xs : List PV} {vs : List V}, vs.length = xs.length → (∀ (j : Nat) (x : PV) (v : V), xs[j]? = some x → vs[j]? = some v → Rep K O H x v) → Reps K O H xs vs
  | [], [], _, _ => .nil
  | [], v :: vs, e, _ => by simp at e
  | x :: xs, [], e, _ => by simp at e
  | x :: xs, v :: vs, e, h => .cons (h 0 x v rfl rfl) (Reps.of_get (by simpa using e) fun j y u hy hu => h (j + 1) y u (by simpa using hy) (by simpa using hu))
section
variable {X : Cx} {T : List (Addr × Str)} {e : Expr} {t : TAp}
end
end Z
set_option Elab.async false
set_option linter.all false
set_option maxRecDepth 100000
/-! t[::-1] of tuples; len(set(..)) of ints -/
namespace Z
open PySem PySem.Spec L2
open PyProof.Rows hiding St
section
variable {prog : Program} {w : World} {A : Around} {E : Value → Shared → Prop} {s : Shared}
end
section
variable {X : Cx} {T : List (Addr × Str)} {e : Expr} {te : TEp} {pos : Pos}
end
end Z
set_option Elab.async false
set_option linter.all false
set_option maxRecDepth 100000
namespace Z
open PySem PySem.Spec L2
open PyProof.Rows hiding St
/-! ### promises: plans read and drawn, as laws of plans ask for them -/
def dicS (sd : List Seat) : List (Key × PV) := sd.map fun x => (Sum.inr x.1.1, PV.int x.2)
def planK (ps : List Pair) : PV := .pln (ps.map pairS)
def seatW (sd : List Seat) (w : Str) : Int := match valP (dicS sd) (.inr w) with
  | some (.int s) => s
  | _ => 0
structure SdOk (n : Int) (sd : List Seat) : Prop where
  n1 : 1 ≤ n
  n2 : n ≤ 20
  w : Rw (sd.map (·.1))
  g : GoodS n sd
def planS (sd : List Seat) : PV := planK (sd.map seatPair)
def SeqR (rs : List Trip) (x : PV) : Prop := x = .lst (rs.map rowP) ∨ x = rowsP rs
def sp_law_meet : PrP := fun K C args P => ∃ a b, args = [rowP a, rowP b] ∧ P (.bl (meetB a b))
def sp_law_flat : PrP := fun K C args P => ∃ sd, args = [.dic (dicS sd)] ∧ (sd.map fun x => x.1.1).Nodup ∧ sd.length ≤ 24 ∧ P (planK (planOf sd))
def sp_law_held : PrP := fun K C args P => ∃ sd, args = [planS sd] ∧ (sd.map fun x => x.1.1).Nodup ∧ sd.length ≤ 24 ∧ P (.dic (dicS sd))
def sp_law_by_startS : PrP := fun K C args P => ∃ rs x, args = [x] ∧ SeqR rs x ∧ Rw rs ∧ P (.lst ((queueT rs).map rowP))
def sp_law_choices : PrF := fun K C args P => ∃ n rs x0 sd r, args = [.int n, x0, .dic (dicS sd), rowP r] ∧ SeqR rs x0 ∧ 0 ≤ n ∧ n ≤ 20 ∧ Rw rs ∧ (∀ x ∈ sd, x.1 ∈ rs) ∧ (sd.map (·.1)).Nodup ∧ P ((leftL n r sd).map .int)
def sp_law_drawn : PrR := fun K C o args P => ∃ n rs x0, Pool o ∧ args = [.int n, x0] ∧ SeqR rs x0 ∧ 1 ≤ n ∧ n ≤ 20 ∧ Rw rs ∧ (overR n rs ≠ none → ∀ o', Pool o' → P .non o') ∧ ∀ sd o', Pool o' → sd.map (·.1) = rs → GoodS n sd → P (planS sd) o'
def ts_law_meet (K : PySem.W.Frag) (CLine : Addr) : TSp := tRetP (tAndVP (tOpP rLt (tOpP rIxP (tVarP 0) (tConP (.int 1))) (tOpP rIxP (tVarP 1) (tConP (.int 2)))) (tOpP rLt (tOpP rIxP (tVarP 1) (tConP (.int 1))) (tOpP rIxP (tVarP 0) (tConP (.int 2)))))
def ts_law_by_startS (K : PySem.W.Frag) (CLine : Addr) : TSp := tSeqP (tSetP 1 (tCBP rSortD (tConsP (tValP (tLcP (iSeqP 0) (gNameP 2) (tYesP) (tTupP (tConsP (tOpP rIxP (tVarP 2) (tConP (.int 1))) (tConsP (tOpP rIxP (tVarP 2) (tConP (.int 0))) (tConsP (tVarP 2) (tNilP))))) [2])) (tNilP)))) (tRetP (tValP (tLcP (iListP (tVarP 1)) (gNameP 3) (tYesP) (tOpP rIxP (tVarP 3) (tConP (.int 2))) [3])))
def ts_law_choices (K : PySem.W.Frag) (CLine : Addr) : TFp := tSeqFP (tSetP 4 (tValP (tLcP (iSeqP 1) (gNameP 5) (tAndP (tBlP (tOpP (rInD false) (tOpP rIxP (tVarP 5) (tConP (.int 0))) (tVarP 2))) (tBlP (tCallP (sp_law_meet K CLine) [] (tConsP (tVarP 5) (tConsP (tVarP 3) (tNilP)))))) (tDGetP (tVarP 2) (tOpP rIxP (tVarP 5) (tConP (.int 0)))) [5]))) (tLcP (iRng2P (tConP (.int 1)) (tOpP rAdd (tVarP 0) (tConP (.int 1)))) (gNameP 6) (tBlP (tOpP (rInL true) (tVarP 6) (tVarP 4))) (tVarP 6) [6])
def ts_law_flat (K : PySem.W.Frag) (CLine : Addr) : TSp := tRetP (tCBP rTupleK (tConsP (tValP (tLcP (iListP (tCBP rSortK (tConsP (tVarP 0) (tNilP)))) (gNameP 1) (tYesP) (tTupP (tConsP (tVarP 1) (tConsP (tDGetP (tVarP 0) (tVarP 1)) (tNilP)))) [1])) (tNilP)))
def ts_law_drawn (K : PySem.W.Frag) (CLine : Addr) : TSp := tSeqP (tSetFDP 3 (tDicFD)) (tSeqP (tForP (iListP (tCallP (sp_law_by_startS K CLine) [] (tConsP (tVarP 2) (tNilP)))) (gNameP 4) (tSeqP (tSetP 5 (tValP (tCallFBP (sp_law_choices K CLine) (tConsBv (tVarP 1) (tConsBv (tVarP 2) (tConsBb 3 (tConsBv (tVarP 4) (tNilB)))))))) (tSeqP (tIfSP (tBlP (tOpP (rEqP false) (tVarP 5) (tLstP (tNilP)))) (tRetP (tConP .non)) (tNextP)) (tDPutP 3 (tOpP rIxP (tVarP 4) (tConP (.int 0))) (tOpP rIxP (tVarP 5) (tCallRP 0 (sp_law_draw K CLine) (tConsP (tCBP rLen (tConsP (tVarP 5) (tNilP))) (tNilP)))))))) (tRetP (tCallBP (sp_law_flat K CLine) (tConsBb 3 (tNilB)))))
def ts_law_held (K : PySem.W.Frag) (CLine : Addr) : TSp := tSeqP (tSetFDP 1 (tDicFD)) (tSeqP (tForP (iTupP (tVarKP 0)) (gTupP 2 (gConsP (gNameP 2) (gConsP (gNameP 3) (gNilP)))) (tDPutP 1 (tVarP 2) (tVarP 3))) (tRetP (tVarP 1)))
section
variable {K : PySem.W.Frag} {C : Addr} {args : List PV} {P : PV → Prop} {PF : List PV → Prop} {PR : PV → Ow → Prop} {o : Ow}
theorem len_law_meet (h : sp_law_meet K C args P) : args.length = 2 := by
  obtain ⟨_, _, rfl, _⟩ := h; rfl
theorem len_law_flat (h : sp_law_flat K C args P) : args.length = 1 := by
  obtain ⟨_, rfl, _⟩ := h; rfl
theorem len_law_held (h : sp_law_held K C args P) : args.length = 1 := by
  obtain ⟨_, rfl, _⟩ := h; rfl
theorem len_law_by_startS (h : sp_law_by_startS K C args P) : args.length = 1 := by
  obtain ⟨_, _, rfl, _⟩ := h; rfl
theorem len_law_choices (h : sp_law_choices K C args PF) : args.length = 4 := by
  obtain ⟨_, _, _, _, _, rfl, _⟩ := h; rfl
theorem len_law_drawn (h : sp_law_drawn K C o args PR) : args.length = 2 := by
  obtain ⟨_, _, _, _, rfl, _⟩ := h; rfl
end
end Z
set_option Elab.async false
set_option linter.all false
set_option maxRecDepth 100000
namespace Z
open PySem PySem.Spec L2
open PyProof.Rows hiding St
theorem atI_nat60 {xs : List PV} {i : Nat} {x : PV} (h : xs[i]? = some x) : atI xs (i : Int) = some x := by
  have hi := (List.getElem?_eq_some_iff.mp h).1
  unfold atI ixN
  rw [if_pos (by omega), if_pos (by omega), Int.toNat_natCast]
  exact h
theorem all_true60 : ∀ n : Nat, blsOf (List.replicate n (.bl true)) = some (List.replicate n true)
  | 0 => rfl
  | n + 1 => by rw [List.replicate_succ, List.replicate_succ, blsOf, all_true60 n]; rfl
theorem val_dicS {sd : List Seat} {w : Str} : valP (dicS sd) (.inr w) = (sd.find? fun x => decide (x.1.1 = w)).map fun x => PV.int x.2 := by
  unfold dicS
  induction sd with
  | nil => rfl
  | cons x sd ih =>
    rw [List.map_cons, List.find?_cons]
    unfold valP
    by_cases h : x.1.1 = w
    · rw [if_pos (by rw [h]), decide_eq_true h]; rfl
    · rw [if_neg (fun z => h (Sum.inr.inj z)), decide_eq_false h]; exact ih
theorem val_some {sd : List Seat} {x : Seat} (hn : (sd.map fun x => x.1.1).Nodup) (hx : x ∈ sd) : valP (dicS sd) (.inr x.1.1) = some (.int x.2) := by
  rw [val_dicS]
  have : (sd.find? fun y => decide (y.1.1 = x.1.1)) = some x := by
    induction sd with
    | nil => cases hx
    | cons y sd ih =>
      rw [List.find?_cons]
      rw [List.map_cons, List.nodup_cons] at hn
      rcases List.mem_cons.mp hx with h | h
      · subst h; rw [decide_eq_true rfl]
      · have ne : y.1.1 ≠ x.1.1 := fun e => hn.1 (by rw [e]; exact List.mem_map.mpr ⟨x, h, rfl⟩)
        rw [decide_eq_false ne]
        exact ih hn.2 h
  rw [this]; rfl
theorem put_dicS {sd : List Seat} {r : Trip} {s : Int} (h : ∀ x ∈ sd, x.1.1 ≠ r.1) : putP (dicS sd) (.inr r.1) (.int s) = dicS (sd ++ [(r, s)]) := by
  unfold putP
  have : ((dicS sd).any fun kv => decide (kv.1 = Sum.inr r.1)) = false := by
    rw [List.any_eq_false]
    intro kv hk
    obtain ⟨x, hx, rfl⟩ := List.mem_map.mp hk
    have := h x hx
    simpa using this
  rw [this, if_neg Bool.false_ne_true]
  unfold dicS
  rw [List.map_append]; rfl
theorem name_of_fst {rs : List Trip} {sd : List Seat} (hw : Rw rs) (hi : ∀ x ∈ sd, x.1 ∈ rs) (hn : (sd.map (·.1)).Nodup) : (sd.map fun x => x.1.1).Nodup := by
  have e : (sd.map fun x => x.1.1) = (sd.map (·.1)).map (·.1) := by rw [List.map_map]; rfl
  rw [e]
  refine List.pairwise_map.mpr (hn.imp_of_mem fun {a b} ha hb hab e => hab ?_)
  obtain ⟨x, hx, rfl⟩ := List.mem_map.mp ha
  obtain ⟨y, hy, rfl⟩ := List.mem_map.mp hb
  exact name_inj hw (hi x hx) (hi y hy) e
theorem nodup_of_names {rs : List Trip} (h : (rs.map (·.1)).Nodup) : rs.Nodup := (List.pairwise_map.mp h).imp fun {a b} q e => q (by rw [e])
theorem left_le {n : Int} {r : Trip} {sd : List Seat} : (leftL n r sd).length ≤ n.toNat := by
  have := List.length_filter_le (fun s => !decide (s ∈ takenL r sd)) (upto n)
  have e : (upto n).length = n.toNat := by unfold upto; rw [List.length_map, List.length_range]
  unfold leftL; omega
theorem rising_all : ∀ (p : Str) (l : List Str), risingS p l = true → (p :: l).Pairwise fun a b => a.cps.toList ≤ b.cps.toList
  | p, [], _ => List.pairwise_singleton _ _
  | p, x :: r, h => by
    unfold risingS at h
    rw [Bool.and_eq_true, ltCps_eq] at h
    have h1 : p.cps.toList ≤ x.cps.toList := by
      have := h.1
      refine List.not_lt.mp fun z => ?_
      rw [decide_eq_true z] at this; cases this
    have ih := rising_all x r h.2
    refine List.pairwise_cons.mpr ⟨fun y hy => ?_, ih⟩
    rcases List.mem_cons.mp hy with e | e
    · subst e; exact h1
    · exact List.le_trans h1 ((List.pairwise_cons.mp ih).1 y e)
theorem sorted_all : ∀ l : List Str, sortedS l = true → l.Pairwise fun a b => a.cps.toList ≤ b.cps.toList
  | [], _ => .nil
  | x :: r, h => rising_all x r h
theorem seatW_of {sd : List Seat} {x : Seat} (hn : (sd.map fun x => x.1.1).Nodup) (hx : x ∈ sd) : seatW sd x.1.1 = x.2 := by
  unfold seatW; rw [val_some hn hx]
theorem val_seatW {sd : List Seat} {w : Str} (h : (valP (dicS sd) (.inr w)).isSome = true) : valP (dicS sd) (.inr w) = some (.int (seatW sd w)) := by
  unfold seatW
  rw [val_dicS] at h ⊢
  cases e : sd.find? fun x => decide (x.1.1 = w) with
  | none => rw [e] at h; cases h
  | some x => rfl
theorem flat_plan {sd : List Seat} {ys : List Str} (hn : (sd.map fun x => x.1.1).Nodup) (hp : ys.Perm (sd.map fun x => x.1.1)) (hs : sortedS ys = true) : ys.map (fun w => ((w, seatW sd w) : Pair)) = planOf sd := by
  have p1 : (ys.map (fun w => ((w, seatW sd w) : Pair))).Perm (sd.map seatPair) := by
    have := hp.map (fun w => ((w, seatW sd w) : Pair))
    rw [List.map_map] at this
    refine this.trans (.of_eq ?_)
    refine List.map_congr_left fun x hx => ?_
    show (x.1.1, seatW sd x.1.1) = (x.1.1, x.2)
    rw [seatW_of hn hx]
  refine ascP_uniq (p1.trans (planOf_perm sd).symm) ?_ (planOf_asc hn)
  have nd : ys.Nodup := hp.nodup_iff.mpr hn
  refine List.pairwise_map.mpr (((sorted_all ys hs).and nd).imp fun {a b} h => ?_)
  exact Classical.byContradiction fun nb => h.2 (str_ext (List.le_antisymm h.1 (List.not_lt.mp nb)))
theorem keys_dicS (sd : List Seat) : (dicS sd).map (·.1) = (sd.map fun x => x.1.1).map Sum.inr := by
  unfold dicS; rw [List.map_map, List.map_map]; rfl
section
variable {η : EP'} {Q : PV → EP' → Prop} {QA : List PV → EP' → Prop} {QB : List Ab → EP' → Prop} {D : EndsP} {td ti te ta tb : TEp} {t : TAp} {tB : TAbp} {tr : TArp} {tf : TFDp} {i : Nat}
theorem w_dgetV {s : Nat} {kvs : List (Key × PV)} (e : η[s]? = some (.va (.dic kvs))) (h : ti η fun y η2 => ∃ k z, dkey y = some k ∧ valP kvs k = some z ∧ Q z η2) : tDGetP (tVarP s) ti η Q := by
  show tVarP s η _
  exact w_var e h
theorem q_inD {x : PV} {k : Key} {kvs : List (Key × PV)} {P : PV → Prop} (e : dkey x = some k) (h : P (.bl (valP kvs k).isSome)) : rInD false x (.dic kvs) P := ⟨k, e, by rw [if_neg Bool.false_ne_true]; exact h⟩
theorem w_setFD (h0 : (0 : Nat) ≠ i) (h : tf η fun kvs η1 => i < η1.length ∧ D.nx (η1.set i (.ow (.d kvs)))) : tSetFDP i tf D η := ⟨h0, h⟩
def putM (s : Nat) (y x : PV) (η : EP') (R : EP' → Prop) : Prop := match η[s]? with
  | some (.ow (.d kvs)) => ∃ k, dkey y = some k ∧ kvs.length < sizeLine ∧ R (η.set s (.ow (.d (putP kvs k x))))
  | _ => False
theorem w_dput (h : te η fun x η1 => (∃ o, η1[i]? = some (Sl.ow o)) ∧ ti η1 fun y η2 => putM i y x η2 D.nx) : tDPutP i ti te D η := h
theorem q_putM {s : Nat} {x y : PV} {k : Key} {η : EP'} {R : EP' → Prop} {kvs : List (Key × PV)} (e : η[s]? = some (.ow (.d kvs))) (ek : dkey y = some k) (l : kvs.length < sizeLine) (h : R (η.set s (.ow (.d (putP kvs k x))))) : putM s y x η R := by unfold putM; rw [e]; exact ⟨k, ek, l, h⟩
theorem w_iseq {x : PV} {rs : List Trip} {s : Nat} (e : η[s]? = some (.va x)) (hx : SeqR rs x) (h : QA (rs.map rowP) η) : iSeqP s η QA := by
  unfold iSeqP
  rw [e]
  rcases hx with rfl | rfl <;> exact h
theorem w_dicF {QD : List (Key × PV) → EP' → Prop} (h : QD [] η) : tDicFD η QD := h
theorem w_nilB (h : QB [] η) : tNilB η QB := h
theorem w_bv (h : te η fun x η1 => tB η1 fun abs η2 => QB (.v x :: abs) η2) : tConsBv te tB η QB := h
theorem w_bb {o : Ow} (e : η[i]? = some (.ow o)) (h : tB η fun abs η1 => QB (.b i :: abs) η1) : tConsBb i tB η QB := ⟨⟨o, e⟩, h⟩
theorem w_callB {sp : SpP} (h : tB η fun abs η1 => ∃ args, fillB η1 abs = some args ∧ sp args fun z => tpV z = true ∧ Q z η1) : tCallBP sp tB η Q := h
theorem w_callFB {sp : SpF} (h : tB η fun abs η1 => ∃ args, fillB η1 abs = some args ∧ sp args fun ys => tpVs ys = true ∧ QA ys η1) : tCallFBP sp tB η QA := h
end
theorem tp_ints : ∀ ns : List Int, tpVs (ns.map .int) = true
  | [] => rfl
  | n :: ns => by rw [List.map_cons, tpVs, tp_ints ns]; rfl
theorem q_tuplK {xs : List PV} {Q : PV → Prop} (h : Q (.pln xs)) : rTupleK [.lst xs] Q := h
theorem tp_planK (ps : List Pair) : tpV (planK ps) = true := by
  unfold planK
  rw [tpV]
  induction ps with
  | nil => rfl
  | cons p ps ih => rw [List.map_cons, tpVs, ih]; rfl
structure ShowP (p : Pair) : Prop where
  l : p.1.length ≤ 8
  low : LowS p.1
  s0 : 0 ≤ p.2
  s1 : p.2 < 10 ^ 60
def fS (sd : List Seat) (r : Trip) : Int := seatW sd r.1
theorem toDs_intsA : ∀ ns : List Int, toDs (ns.map .int) = some (ns.map PyData.int)
  | [] => rfl
  | n :: ns => by rw [List.map_cons, toDs, toDs_intsA ns]; rfl
theorem canLay_ints : ∀ ns : List Int, PyData.canLayAll0 (ns.map PyData.int) = true
  | [] => rfl
  | n :: ns => by rw [List.map_cons, PyData.canLayAll0, canLay_ints ns]; rfl
theorem depth_ints : ∀ ns : List Int, PyData.depthAll (ns.map PyData.int) ≤ 1
  | [] => by simp [PyData.depthAll]
  | n :: ns => by
    have := depth_ints ns
    rw [List.map_cons, PyData.depthAll, PyData.depth]
    omega
theorem shaped_ints (ns : List Int) : SeqAt.shaped (.list (ns.map PyData.int)) = true := by
  unfold SeqAt.shaped
  have := depth_ints ns
  rw [PyData.canLay0, canLay_ints, Bool.true_and]
  refine decide_eq_true ?_
  rw [PyData.depth]
  omega
theorem q_eqNilI {ns : List Int} {P : PV → Prop} (h : P (.bl (decide (ns = [])))) : rEqP false (.lst (ns.map .int)) (.lst []) P := by
  refine ⟨.list (ns.map PyData.int), .list [], by rw [toD, toDs_intsA]; rfl, rfl, shaped_ints ns, shaped_ints [], ?_⟩
  have e : PyData.eqv (.list (ns.map PyData.int)) (.list []) = decide (ns = []) := by
    cases ns with
    | nil => rfl
    | cons n ns => rw [List.map_cons, PyData.eqv, PyData.eqvAll]; rfl
  rw [e]
  simpa using h
section
variable {K : PySem.W.Frag} {C : Addr} {args : List PV} {P : PV → Prop} {PF : List PV → Prop} {PR : PV → Ow → Prop} {o : Ow}
theorem rd_law_meet (h : sp_law_meet K C args P) : ts_law_meet K C { nx := fun _ => P .non, rt := fun x _ => P x } (startP 2 args) := by
  obtain ⟨a, b, rfl, hp⟩ := h
  have e : startP 2 [rowP a, rowP b] = [.va (rowP a), .va (rowP b)] := rfl
  rw [e]
  refine w_ret (w_andV (w_op (w_op (w_var (x := rowP a) rfl (w_con (q_ixT (x := .int a.2.1) rfl (w_op (w_var (x := rowP b) rfl (w_con (q_ixT (x := .int b.2.2) rfl (q_lt ?_)))))))))))
  unfold meetB at hp
  by_cases c1 : a.2.1 < b.2.2
  · rw [decide_eq_true c1] at hp ⊢
    refine w_op (w_op (w_var (x := rowP b) rfl (w_con (q_ixT (x := .int b.2.1) rfl (w_op (w_var (x := rowP a) rfl (w_con (q_ixT (x := .int a.2.2) rfl (q_lt ?_)))))))))
    rw [Bool.true_and] at hp
    exact hp
  · rw [decide_eq_false c1] at hp ⊢
    exact hp
def takenR (rs : List Trip) (sd : List Seat) (r : Trip) : List Int := (rs.filter fun u => (valP (dicS sd) (.inr u.1)).isSome && meetB u r).map fun u => seatW sd u.1
theorem takenR_mem {rs : List Trip} {sd : List Seat} {r : Trip} (hw : Rw rs) (hi : ∀ x ∈ sd, x.1 ∈ rs) (hn : (sd.map (·.1)).Nodup) (s : Int) : s ∈ takenR rs sd r ↔ s ∈ takenL r sd := by
  have hnm := name_of_fst hw hi hn
  unfold takenR takenL
  rw [List.mem_map, List.mem_map]
  constructor
  · rintro ⟨u, hu, rfl⟩
    obtain ⟨h1, h2⟩ := List.mem_filter.mp hu
    rw [Bool.and_eq_true] at h2
    have h3 := h2.1
    rw [val_dicS, Option.isSome_map] at h3
    obtain ⟨x, hx⟩ := Option.isSome_iff_exists.mp h3
    have hxm := List.mem_of_find?_eq_some hx
    have hxe : x.1.1 = u.1 := by
      have := List.find?_some hx
      simpa using this
    have e : x.1 = u := name_inj hw (hi x hxm) h1 hxe
    refine ⟨x, List.mem_filter.mpr ⟨hxm, ?_⟩, ?_⟩
    · rw [e, meet_commS]; exact h2.2
    · rw [← hxe, seatW_of hnm hxm]
  · rintro ⟨x, hx, rfl⟩
    obtain ⟨h1, h2⟩ := List.mem_filter.mp hx
    refine ⟨x.1, List.mem_filter.mpr ⟨hi x h1, ?_⟩, seatW_of hnm h1⟩
    rw [val_some hnm h1, meet_commS, h2]; rfl
theorem left_takenR {n : Int} {rs : List Trip} {sd : List Seat} {r : Trip} (hw : Rw rs) (hi : ∀ x ∈ sd, x.1 ∈ rs) (hn : (sd.map (·.1)).Nodup) : ((upto n).filter fun s => !decide (s ∈ takenR rs sd r)) = leftL n r sd := by
  unfold leftL
  refine List.filter_congr fun s _ => ?_
  rw [decide_eq_decide.mpr (takenR_mem hw hi hn s)]
theorem rd_law_by_startS (h : sp_law_by_startS K C args P) : ts_law_by_startS K C { nx := fun _ => P .non, rt := fun x _ => P x } (startP 4 args) := by
  obtain ⟨rs, x0, rfl, hx0, hw, hp⟩ := h
  have e : startP 4 [x0] = [.va x0, .no, .no, .no] := rfl
  rw [e]
  have hl := hw.len
  have ql := queue_len rs
  have sz : 1000 < sizeLine := by decide
  refine w_seq (w_set (w_cb (w_cons (w_val (w_lc (w_iseq rfl hx0 ?_))))))
  refine ⟨fun i acc η => acc = (rs.take i).map triP ∧ η = [.va x0, .no, .no, .no], ⟨rfl, rfl⟩, ?_, ?_⟩
  · rintro i x acc η hi ⟨rfl, rfl⟩
    rw [List.getElem?_map] at hi
    obtain ⟨r, hr, rfl⟩ := Option.map_eq_some_iff.mp hi
    refine w_gname (w_yes (q_iteT ?_))
    refine w_tup (w_cons (w_op (w_var (x := rowP r) rfl (w_con (q_ixT (x := .int r.2.1) rfl (w_cons (w_op (w_var (x := rowP r) rfl (w_con (q_ixT (x := .str r.1) rfl ?_))))))))))
    refine w_cons (w_var (x := rowP r) rfl (w_nil ⟨sz3, by rw [List.length_map, List.length_take]; omega, ?_, rfl⟩))
    rw [take_map hr]
    rfl
  · rintro acc η ⟨rfl, rfl⟩
    rw [List.length_map, List.take_length]
    refine w_nil ⟨_, toDs_tri rs, alike_tri rs, .inl fun d hd => ?_, fun x hx => ?_, by rw [List.length_map]; omega, ?_⟩
    · obtain ⟨a, _, rfl⟩ := List.mem_map.mp hd
      exact ⟨_, _, rfl⟩
    · obtain ⟨a, _, rfl⟩ := List.mem_map.mp hx
      show (triD a).depth ≤ 50
      simp [triD, rowD, PyData.depth, PyData.depthAll]
    · rw [tri_sort (asc_nodup hw)]
      simp only [List.set_cons_zero, List.set_cons_succ]
      refine w_ret (w_val (w_lc (w_varL (xs := (queueT rs).map triP) rfl ?_)))
      refine ⟨fun i acc η => acc = ((queueT rs).take i).map rowP ∧ η = [.va x0, .va (.lst ((queueT rs).map triP)), .no, .no], ⟨rfl, rfl⟩, ?_, ?_⟩
      · rintro i x acc η hi ⟨rfl, rfl⟩
        rw [List.getElem?_map] at hi
        obtain ⟨r, hr, rfl⟩ := Option.map_eq_some_iff.mp hi
        refine w_gname (w_yes (q_iteT ?_))
        refine w_op (w_var (x := triP r) rfl (w_con (q_ixT (x := rowP r) rfl ⟨by rw [List.length_map, List.length_take]; omega, ?_, rfl⟩)))
        rw [take_map hr]
      · rintro acc η ⟨rfl, rfl⟩
        rw [List.length_map, List.take_length]
        exact hp
theorem rd_law_choices (h : sp_law_choices K C args PF) : ts_law_choices K C (startP 7 args) (fun xs _ => PF xs) := by
  obtain ⟨n, rs, x0, sd, r, rfl, hx0, n0, n20, hw, hi, hn, hp⟩ := h
  have e : startP 7 [.int n, x0, .dic (dicS sd), rowP r] = [.va (.int n), .va x0, .va (.dic (dicS sd)), .va (rowP r), .no, .no, .no] := rfl
  rw [e]
  have sz : 1000 < sizeLine := by decide
  have hl := hw.len
  refine w_seqF (w_set (w_val (w_lc (w_iseq rfl hx0 ?_))))
  show ∃ Inv : Nat → List PV → EP' → Prop, _
  refine ⟨fun i acc η => acc = ((rs.take i).filter fun u => (valP (dicS sd) (.inr u.1)).isSome && meetB u r).map (fun u => PV.int (seatW sd u.1)) ∧ η = [.va (.int n), .va x0, .va (.dic (dicS sd)), .va (rowP r), .no, .no, .no], ⟨rfl, rfl⟩, ?_, ?_⟩
  · rintro i x acc η hx ⟨rfl, rfl⟩
    rw [List.getElem?_map] at hx
    obtain ⟨u, hu, rfl⟩ := Option.map_eq_some_iff.mp hx
    refine w_gname (w_and (w_bl (w_op (w_op (w_var (x := rowP u) rfl (w_con (q_ixT (x := .str u.1) rfl (w_var (x := .dic (dicS sd)) rfl (q_inD rfl ?_)))))))))
    cases hv : (valP (dicS sd) (.inr u.1)).isSome with
    | false =>
      refine q_iteF (q_iteF ⟨?_, rfl⟩)
      rw [take_filterF hu (by rw [hv]; rfl)]
    | true =>
      refine q_iteT (w_bl (w_call (w_cons (w_var (x := rowP u) rfl (w_cons (w_var (x := rowP r) rfl (w_nil ⟨u, r, rfl, ?_⟩)))))))
      cases hm : meetB u r with
      | false =>
        refine q_iteF ⟨?_, rfl⟩
        rw [take_filterF hu (by rw [hv, hm]; rfl)]
      | true =>
        refine q_iteT (w_dgetV rfl (w_op (w_var (x := rowP u) rfl (w_con (q_ixT (x := .str u.1) rfl ⟨_, _, rfl, val_seatW hv, ?_, ?_, rfl⟩)))))
        · rw [List.length_map]; exact filt_len hl
        · rw [take_filterT hu (by rw [hv, hm]; rfl), List.map_append]; rfl
  · rintro acc η ⟨rfl, rfl⟩
    rw [List.length_map, List.take_length]
    have et : ((rs.filter fun u => (valP (dicS sd) (.inr u.1)).isSome && meetB u r).map (fun u => PV.int (seatW sd u.1))) = (takenR rs sd r).map .int := by unfold takenR; rw [List.map_map]; rfl
    rw [et]
    rw [← left_takenR hw hi hn] at hp
    generalize takenR rs sd r = T at hp
    simp only [List.set_cons_zero, List.set_cons_succ]
    refine w_lc (w_rngS (w_con (w_op (w_var (x := .int n) rfl (w_con (q_add ?_))))))
    refine ⟨by decide, by decide, by omega, by omega, ?_⟩
    rw [show (n + 1 - 1).toNat = n.toNat by omega]
    refine ⟨fun i acc η => acc = (((upto n).take i).filter fun s => !decide (s ∈ T)).map PV.int ∧ η = [.va (.int n), .va x0, .va (.dic (dicS sd)), .va (rowP r), .va (.lst (T.map .int)), .no, .no], ⟨rfl, rfl⟩, ?_, ?_⟩
    · rintro i x acc η hi ⟨rfl, rfl⟩
      obtain ⟨hin, rfl⟩ := rangeP_get hi
      have hu : (upto n)[i]? = some (1 + (i : Int)) := by
        unfold upto
        rw [List.getElem?_map, List.getElem?_range hin]; rfl
      refine w_gname (w_bl (w_op (w_var (x := .int (1 + (i : Int))) rfl (w_var (x := .lst (T.map .int)) rfl (q_notInI ?_)))))
      cases hb : (!decide ((1 + (i : Int)) ∈ T)) with
      | true =>
        refine q_iteT (w_var (x := .int (1 + (i : Int))) rfl ⟨?_, ?_, rfl⟩)
        · rw [List.length_map]
          have := List.length_filter_le (fun s => !decide (s ∈ T)) ((upto n).take i)
          rw [List.length_take] at this
          omega
        · rw [take_filterT hu hb, List.map_append]
          rfl
      | false => exact q_iteF ⟨by rw [take_filterF hu hb], rfl⟩
    · rintro acc η ⟨rfl, rfl⟩
      rw [rangeP_len]
      have : (upto n).length = n.toNat := by unfold upto; rw [List.length_map, List.length_range]
      rw [← this, List.take_length]
      exact hp
theorem rd_law_flat (h : sp_law_flat K C args P) : ts_law_flat K C { nx := fun _ => P .non, rt := fun x _ => P x } (startP 2 args) := by
  obtain ⟨sd, rfl, hn, hl, hp⟩ := h
  have e : startP 2 [.dic (dicS sd)] = [.va (.dic (dicS sd)), .no] := rfl
  rw [e]
  have sz : 1000 < sizeLine := by decide
  refine w_ret (w_cb (w_cons (w_val (w_lc (w_lstP (w_cb (w_cons (w_var (x := .dic (dicS sd)) rfl (w_nil ⟨sd.map fun x => x.1.1, keys_dicS sd, by rw [List.length_map]; omega, fun ys hy hs => ?_⟩)))))))))
  have yl : ys.length = sd.length := by rw [hy.length_eq, List.length_map]
  show ∃ Inv : Nat → List PV → EP' → Prop, _
  refine ⟨fun i acc η => acc = (ys.take i).map (fun w => pairS (w, seatW sd w)) ∧ η = [.va (.dic (dicS sd)), .no], ⟨rfl, rfl⟩, ?_, ?_⟩
  · rintro i x acc η hx ⟨rfl, rfl⟩
    rw [List.getElem?_map] at hx
    obtain ⟨w, hw, rfl⟩ := Option.map_eq_some_iff.mp hx
    have hm : w ∈ sd.map fun x => x.1.1 := hy.mem_iff.mp (List.mem_of_getElem? hw)
    obtain ⟨u, hu, rfl⟩ := List.mem_map.mp hm
    refine w_gname (w_yes (q_iteT (w_tup (w_cons (w_var (x := .str u.1.1) rfl (w_cons (w_dgetV rfl (w_var (x := .str u.1.1) rfl ⟨_, _, rfl, val_some hn hu, w_nil ⟨sz2, ?_, ?_, rfl⟩⟩))))))))
    · rw [List.length_map, List.length_take]; omega
    · rw [take_map hw, seatW_of hn hu]; rfl
  · rintro acc η ⟨rfl, rfl⟩
    rw [List.length_map, List.take_length]
    refine w_nil (q_tuplK ?_)
    have := flat_plan hn hy hs
    rw [← this] at hp
    unfold planK at hp
    rw [List.map_map] at hp
    exact hp
theorem rd_law_held (h : sp_law_held K C args P) : ts_law_held K C { nx := fun _ => P .non, rt := fun x _ => P x } (startP 4 args) := by
  obtain ⟨sd, rfl, hn, hl, hp⟩ := h
  have e : startP 4 [planS sd] = [.va (planS sd), .no, .no, .no] := rfl
  rw [e]
  have sz : 1000 < sizeLine := by decide
  refine w_seq (w_setFD (by decide) (w_dicF ⟨by show 1 < 4; decide, ?_⟩))
  simp only [List.set_cons_zero, List.set_cons_succ]
  refine w_seq (w_for (w_itup (w_varK (x := planS sd) rfl ?_)))
  show ∃ Inv : Nat → EP' → Prop, _
  refine ⟨fun i η => ∃ s2 s3, η = [.va (planS sd), .ow (.d (dicS (sd.take i))), s2, s3], ⟨_, _, rfl⟩, ?_, ?_⟩
  · rintro i x η hi ⟨s2, s3, rfl⟩
    rw [List.getElem?_map, List.getElem?_map] at hi
    obtain ⟨p, hp', rfl⟩ := Option.map_eq_some_iff.mp hi
    obtain ⟨u, hu, rfl⟩ := Option.map_eq_some_iff.mp hp'
    have et : sd.take (i + 1) = sd.take i ++ [u] := by rw [List.take_succ, hu]; rfl
    have hn' := hn.sublist ((List.take_sublist (i + 1) sd).map fun x => x.1.1)
    rw [et, List.map_append, List.nodup_append] at hn'
    have fr : ∀ x ∈ sd.take i, x.1.1 ≠ u.1.1 := fun x hx e => hn'.2.2 x.1.1 (List.mem_map.mpr ⟨x, hx, rfl⟩) u.1.1 (by simp) e
    refine w_gpS ?_
    simp only [List.set_cons_zero, List.set_cons_succ]
    refine w_dput (w_var (x := .int u.2) rfl ⟨⟨_, rfl⟩, w_var (x := .str u.1.1) rfl (q_putM rfl rfl ?_ ?_)⟩)
    · unfold dicS; rw [List.length_map, List.length_take]; omega
    rw [put_dicS fr]
    simp only [List.set_cons_zero, List.set_cons_succ]
    exact ⟨.va (.str u.1.1), .va (.int u.2), by rw [et]; rfl⟩
  · rintro η ⟨s2, s3, rfl⟩
    rw [List.length_map, List.length_map, List.take_length]
    dsimp only
    exact w_ret (w_varO (o := .d (dicS sd)) rfl hp)
theorem rd_law_drawn (h : sp_law_drawn K C o args PR) : ts_law_drawn K C { nx := fun η' => ∃ o', η'[0]? = some (Sl.ow o') ∧ PR .non o', rt := fun x η' => ∃ o', η'[0]? = some (Sl.ow o') ∧ PR x o' } (startR 6 o args) := by
  obtain ⟨n, rs, x0, po, rfl, hx0, n1, n2, hw, hno, hp⟩ := h
  have e : startR 6 o [.int n, x0] = [.ow o, .va (.int n), .va x0, .no, .no, .no] := rfl
  rw [e]
  have sz : 1000 < sizeLine := by decide
  have hl := hw.len
  have ql := queue_len rs
  have up := queue_up rs
  refine w_seq (w_setFD (by decide) (w_dicF ⟨by show 3 < 6; decide, ?_⟩))
  simp only [List.set_cons_zero, List.set_cons_succ]
  refine w_seq (w_for (w_lstP (w_call (w_cons (w_var (x := x0) rfl (w_nil ⟨rs, x0, rfl, hx0, hw, ?_⟩))))))
  refine ⟨fun i η => ∃ (o' : Ow) (t : List Seat) (s4 s5 : Sl), Pool o' ∧ t.map (·.1) = (queueT rs).take i ∧ GoodS n t ∧ η = [.ow o', .va (.int n), .va x0, .ow (.d (dicS t)), s4, s5], ⟨o, [], _, _, po, rfl, ⟨List.Pairwise.nil, fun _ z => by cases z⟩, rfl⟩, ?_, ?_⟩
  · rintro i x η hi ⟨o1, t, s4, s5, p1, tf, g, rfl⟩
    rw [List.getElem?_map] at hi
    obtain ⟨r, hr, rfl⟩ := Option.map_eq_some_iff.mp hi
    have hil : i < (queueT rs).length := (List.getElem?_eq_some_iff.mp hr).1
    have hnq : (((queueT rs).take (i + 1)).map (·.1)).Nodup := (((queue_perm rs).map _).nodup_iff.mpr (asc_nodup hw)).sublist ((List.take_sublist _ _).map _)
    have et : (queueT rs).take (i + 1) = (queueT rs).take i ++ [r] := by rw [List.take_succ, hr]; rfl
    rw [et, List.map_append, List.nodup_append] at hnq
    have hmem : ∀ x ∈ t, x.1 ∈ (queueT rs).take i := fun x hx => by rw [← tf]; exact List.mem_map.mpr ⟨x, hx, rfl⟩
    have fr : ∀ x ∈ t, x.1.1 ≠ r.1 := fun x hx e => hnq.2.2 x.1.1 (List.mem_map.mpr ⟨x.1, hmem x hx, rfl⟩) r.1 (by simp) e
    have hin : ∀ x ∈ t, x.1 ∈ rs := fun x hx => (queue_perm rs).mem_iff.mp (List.mem_of_mem_take (hmem x hx))
    have hnd : (t.map (·.1)).Nodup := by rw [tf]; exact nodup_of_names hnq.1
    have tl : t.length ≤ 24 := by
      have := congrArg List.length tf
      rw [List.length_map, List.length_take] at this
      omega
    have hst : ∀ x ∈ t, x.1.2.1 ≤ r.2.1 := fun x hx => by
      obtain ⟨j, hj, e⟩ := List.mem_iff_getElem.mp (hmem x hx)
      rw [List.length_take] at hj
      rw [List.getElem_take] at e
      obtain ⟨hi, er⟩ := List.getElem?_eq_some_iff.mp hr
      have := List.pairwise_iff_getElem.mp up j i (by omega) hi (by omega)
      rw [e, er] at this
      exact this
    have hlen : ((leftL n r t).length : Int) = szAt n (queueT rs) i := by
      rw [left_exact (by omega) g hst, szAt_eq hr, ← tf, List.filter_map, List.length_map]
      rfl
    have hpos : overR n rs = none → 1 ≤ szAt n (queueT rs) i := fun ho => over_pos hw ho i hil
    have ll : (leftL n r t).length ≤ n.toNat := left_le
    have hmemL : ∀ k : Int, 0 ≤ k → k < ((leftL n r t).length : Int) → (leftL n r t).getD k.toNat 0 ∈ leftL n r t := fun k k0 k1 => getD_memS (by omega)
    have gs := fun {s : Int} (hs : s ∈ leftL n r t) => good_snoc g hs
    refine w_gname ?_
    simp only [List.set_cons_zero, List.set_cons_succ]
    refine w_seq (w_set (w_val (w_callFB (w_bv (w_var (x := .int n) rfl (w_bv (w_var (x := x0) rfl (w_bb rfl (w_bv (w_var (x := rowP r) rfl (w_nilB ⟨_, rfl, n, rs, x0, t, r, rfl, hx0, by omega, n2, hw, hin, hnd, tp_ints _, ?_⟩)))))))))))
    simp only [List.set_cons_zero, List.set_cons_succ]
    generalize leftL n r t = L at hlen ll hmemL gs ⊢
    refine w_seq (w_if (w_bl (w_op (w_var (x := .lst (L.map .int)) rfl (w_lst (w_nil ⟨by show 0 ≤ sizeLine; omega, q_eqNilI ?_⟩))))))
    refine q_ite (fun hL => ?_) fun hne => w_next ?_
    · have ho : overR n rs ≠ none := fun e => by
        have := hpos e
        rw [hL] at hlen
        simp at hlen
        omega
      exact w_ret (w_con ⟨_, rfl, hno ho _ p1⟩)
    have hL0 : 0 < L.length := List.length_pos_iff.mpr hne
    dsimp only
    refine w_dput (w_op (w_var (x := .lst (L.map .int)) rfl (w_callR rfl (w_cons (w_cb (w_cons (w_var (x := .lst (L.map .int)) rfl (w_nil (q_len ?_)))))))))
    rw [List.length_map]
    have b40 : (20 : Int) < 10 ^ 40 := by decide
    refine w_nil (q_callM rfl ⟨(L.length : Int), p1, rfl, by omega, by omega, fun o2 k p2 k0 k1 => ?_⟩)
    refine q_ix (at_map 0 k0 k1) ⟨⟨_, rfl⟩, w_op (w_var (x := rowP r) rfl (w_con (q_ixT (x := .str r.1) rfl (q_putM rfl rfl ?_ ?_))))⟩
    · unfold dicS; rw [List.length_map]; omega
    rw [put_dicS fr]
    simp only [List.set_cons_zero, List.set_cons_succ]
    exact ⟨o2, t ++ [(r, L.getD k.toNat 0)], _, _, p2, by rw [List.map_append, tf, et]; rfl, gs (hmemL k k0 k1), rfl⟩
  · rintro η ⟨o1, t, s4, s5, p1, tf, g, rfl⟩
    rw [List.length_map, List.take_length] at tf
    dsimp only
    have tp : (t.map (·.1)).Perm rs := by rw [tf]; exact queue_perm rs
    have nm := fst_nodup hw tp
    have tl : t.length ≤ 24 := by
      have := tp.length_eq
      rw [List.length_map] at this
      omega
    obtain ⟨sd, e1, e2, g'⟩ := planok_of hw tp g (planOf_perm t) (planOf_asc nm)
    refine w_ret (w_callB (w_bb rfl (w_nilB ⟨_, rfl, t, rfl, nm, tl, tp_planK _, o1, rfl, ?_⟩)))
    rw [← e2]
    exact hp sd o1 p1 e1 g'
end
end Z
set_option Elab.async false
set_option linter.all false
set_option maxRecDepth 100000
/-! a, b = x, y where inner functions read a name; a new list of two as an own one -/
namespace Z
open PySem PySem.Spec L2
open PyProof.Rows hiding St
section
variable {X : Cx} {T : List (Addr × Str)} {a b : Expr} {ta tb : TEp} {pos : Pos}
end
end Z
set_option Elab.async false
set_option linter.all false
set_option maxRecDepth 100000
/-! membership in tuples and in own things; len of an own list; truth of a list; defs that hand out their own list or dict -/
namespace Z
open PySem PySem.Spec L2
open PyProof.Rows hiding St
section
variable {X : Cx} {T : List (Addr × Str)} {e a b o : Expr} {es : List Expr} {te ta tb ti : TEp} {t : TAbp} {pos p : Pos} {i : Nat} {x : Str}
/-! ### x in t, data of any depth -/
def rInLd (neg : Bool) : R2p := fun x y P => ∃ d ds, toD x = some d ∧ toD y = some (.list ds) ∧ SeqAt.shaped d = true ∧ SeqAt.shaped (.list ds) = true ∧ P (.bl (if neg then !(ds.any fun z => PyData.eqv z d) else ds.any fun z => PyData.eqv z d))
theorem zo_inLd (hu : X.A.units + 65 < cLine) : OpR X (compareOp .In) (r2 X.K (rInLd false)) := by
  refine OpR.weak (op_inD hu) fun x y H Q h => ?_
  obtain ⟨O, px, py, P, tr, hx, hy, ⟨d, ds, h1, h2, h3, h4, h⟩, k⟩ := h
  exact ⟨d, ds, Rep.dp _ _ _ hx h1, Rep.dp _ _ _ hy h2, h3, h4, k.bl h⟩
/-! ### e op own -/
/-! ### built-in calls that read own things -/
/-! ### the truth of a list or tuple -/
def tTruP (te : TEp) : TTp := fun η P => te η fun x η1 => match x with
  | .lst xs => P (!xs.isEmpty) η1
  | .tup xs => P (!xs.isEmpty) η1
  | _ => False
theorem zt_tru (h : PE X e (up X.K T te)) (he : ∀ whole, isTrue e X.env whole = (do let v ← whole; standAt e.pos; holding [v] (truthy v)) := by intro _; rfl) : PT X e (upB X.K T (tTruP te)) := by
  refine PT.weak (pt_truth h he) fun σ H Q q => ?_
  obtain ⟨F, η, P, R, h, k⟩ := q
  refine ⟨F, η, _, R, h, fun x η1 v H1 h1 e1 R1 r1 => ?_⟩
  have em : ∀ {xs : List PV} {vs : List V}, vs.length = xs.length → (!xs.isEmpty) = !vs.isEmpty := fun {xs vs} h => by
    cases xs <;> cases vs <;> simp at h <;> rfl
  split at h1
  · obtain ⟨a, vs, rfl, n, q, rr⟩ := r1.lst_
    exact ⟨_, .inl ⟨vs, SqL.of q, em rr.len⟩, k _ η1 H1 h1 e1 R1⟩
  · obtain ⟨a, vs, rfl, q, rr⟩ := r1.tup_
    exact ⟨_, .inr (.inl ⟨vs, q.sq, em rr.len⟩), k _ η1 H1 h1 e1 R1⟩
  · cases h1
end
/-! ### defs that hand out an own thing -/
abbrev TOp' := EP' → (Ow → EP' → Prop) → Prop
section
variable {X : Cx} {T : List (Addr × Str)} {e : Expr} {st : Stmt} {rest : List Stmt} {t1 : TSp} {tf : TOp'} {pos : Pos} {i : Nat}
/-! the same for dicts -/
end
section
variable {X : Cx} {T : List (Addr × Str)} {e : Expr} {es : List Expr} {t : TAp} {pos p : Pos} {k : Nat} {f : Addr} {fd : FuncData} {ps : List Str} {x : Str}
end
/-! readings -/
section
variable {η : EP'} {Q : PV → EP' → Prop} {QA : List PV → EP' → Prop} {QB : Bool → EP' → Prop} {PO : Ow → EP' → Prop} {te ti : TEp} {t : TAp} {tB : TAbp} {i : Nat} {r : R2p} {r1 : R1p}
end
end Z
set_option Elab.async false
set_option linter.all false
set_option maxRecDepth 100000
/-! [(k, d[k]) for k in d], d an own dict -/
namespace Z
open PySem PySem.Spec L2
open PyProof.Rows hiding St
section
variable {K : PySem.W.Frag} {O : Addr → Prop} {H : Hp}
theorem RepD.get : ∀ {xs : List (Key × PV)} {vs : List (Key × V)} {j : Nat} {p : Key × PV}, RepD K O H xs vs → xs[j]? = some p → ∃ v, vs[j]? = some (p.1, v)
  | [], _, j, p, h, e => by simp at e
  | (n, x) :: xs, _, 0, p, h, e => by
    obtain ⟨v, us, rfl, r, t⟩ := h.inv
    simp at e
    exact ⟨v, by rw [← e]; rfl⟩
  | (n, x) :: xs, _, j + 1, p, h, e => by
    obtain ⟨v, us, rfl, r, t⟩ := h.inv
    simpa using t.get (by simpa using e)
end
section
variable {X : Cx} {T : List (Addr × Str)} {e : Expr} {i j : Nat}
end
end Z
namespace Z
open PySem PySem.Spec L2
theorem Room.u65 {k : Nat} {A : Around} (h : Room k A) : A.units + 65 < cLine := by have := h.un; omega
end Z
set_option Elab.async false
set_option linter.all false
set_option maxRecDepth 100000
/-! any(list of bools), sum(list of ints) -/
namespace Z
open PySem PySem.Spec L2
open PyProof.Rows hiding St
section
variable {X : Cx}
def rAnyP : R1p := fun ps P => match ps with
  | [.lst ys] => ∃ bs, blsOf ys = some bs ∧ P (.bl (bs.any id))
  | _ => False
theorem zc_any (hc : X.calm = true) : CallR X (.builtin "any") (r1 X.K rAnyP) := by
  refine CallR.weak (cr_any hc) fun xs H Q h => ?_
  obtain ⟨O, ps, P, tr, hx, h, k⟩ := h
  unfold rAnyP at h
  split at h
  · obtain ⟨bs, e, h⟩ := h
    obtain ⟨v, rfl, r⟩ := hx.one
    obtain ⟨a, vs, rfl, n, q, rr⟩ := r.lst_
    have := blsOf_rep e rr
    subst this
    exact ⟨a, bs, rfl, SqL.of q, k.bl h⟩
  · cases h
end
end Z
set_option Elab.async false
set_option linter.all false
set_option maxRecDepth 100000
/-! t[lo:hi], t + u of tuples known to have no dict: the results have none either -/
namespace Z
open PySem PySem.Spec L2
open PyProof.Rows hiding St
section
variable {X : Cx}
end
section
variable {X : Cx} {T : List (Addr × Str)} {e : Expr} {te : TEp} {pos : Pos}
end
end Z
set_option Elab.async false
set_option linter.all false
set_option maxRecDepth 100000
/-! [.. for k in d] over a dict of ints that is a value, each entry an int made of k, d[k] and an int local -/
namespace Z
open PySem PySem.Spec L2
open PyProof.Rows hiding St
def intOfP : Option PV → Int
  | some (.int v) => v
  | _ => 0
def dcompP (f : Int → Key → Int → Int) (q : Int) (kvs : List (Key × PV)) : List PV := kvs.map fun kv => .int (f q kv.1 (intOfP (valP kvs kv.1)))
def tDCompP (i j m : Nat) (f : Int → Key → Int → Int) : TFp := fun η P => i ≠ j ∧ m ≠ j ∧ j < η.length ∧ ∃ kvs q, η[i]? = some (Sl.va (.dic kvs)) ∧ η[m]? = some (Sl.va (.int q)) ∧ kvs.length < sizeLine ∧ (∀ p ∈ kvs, ∃ v, valP kvs p.1 = some (.int v)) ∧ P (dcompP f q kvs) η
def DElt (te0 : TE) (i j m : Nat) (f : Int → Key → Int → Int) : Prop := ∀ (σ' : St) (H' : Hp) (a : Addr) (od : Obj) (ws : List (Key × V)) (kk : Key) (v q : Int) (Q : VK), σ'[i]? = some (some (V.ref a)) → σ'[j]? = some (some (kV kk)) → σ'[m]? = some (some (V.int q)) → H' a = some (.frz od (.dK ws)) → valV ws kk = some (V.int v) → Q (.int (f q kk v)) H' → te0 σ' H' Q
def DCompW (H : Hp) (a D : Addr) (od : Obj) (f : Int → Key → Int → Int) (q : Int) (kvs : List (Key × PV)) (ws : List (Key × V)) (n m : Nat) (H2 : Hp) : Prop :=
  m = ws.length - n ∧ n ≤ ws.length ∧ H2 a = some (.frz od (.dK ws)) ∧ H2 D = some (.lst (((dcompP f q kvs).take n).map fun x => V.int (intOfP (some x)))) ∧ ∀ b o, H b = some o → b ≠ a → H2 b = some o
section
variable {X : Cx} {T : List (Addr × Str)} {e : Expr} {i j m : Nat} {f : Int → Key → Int → Int} {te0 : TE}
theorem z_dcomp (he : DElt te0 i j m f) (pf : PE X e (tLc (iKeys (tVar i)) (gName j) tYes te0 [j])) : PE X e (upF X.K T (tDCompP i j m f)) := by
  refine PE.weak (pe_lock pf) fun σ H Q q => ?_
  obtain ⟨F, η, P, R, ⟨hij, hmj, hj, kvs, q, ei, em, hl, hv, hP⟩, k⟩ := q
  obtain ⟨v0, ha, rv⟩ := R.va i _ ei
  obtain ⟨a, ws, rfl, nO, q1, q2⟩ := rv.dic_
  obtain ⟨v1, hm, rm⟩ := R.va m _ em
  cases rm.int_
  have wl := q2.len
  have hjs : j < σ.length := by rw [R.len]; exact hj
  have dl : (dcompP f q kvs).length = ws.length := by unfold dcompP; rw [List.length_map, wl]
  refine ⟨a, .dK ws, q1, trivial, fun od => ?_⟩
  refine ⟨.ref a, ha, a, od, rfl, .inl ⟨ws, upd_same, fun D hD => ?_⟩⟩
  have hDa : D ≠ a := fun z => by rw [z, upd_same] at hD; cases hD
  have hD0 : H D = none := by rw [upd_ne hDa] at hD; exact hD
  refine ⟨DCompW H a D od f q kvs ws, ⟨ws.length, rfl, Nat.zero_le _, by rw [upd_ne (Ne.symm hDa), upd_same], upd_same, fun b o hb hba => by rw [upd_ne (fun z => by rw [z, hD0] at hb; cases hb), upd_ne hba]; exact hb⟩, ?_⟩
  rintro n m' H2 ⟨rfl, hn, h1, h2, h5⟩
  by_cases hlt : n < ws.length
  · refine .inr ⟨⟨h1, hlt⟩, fun H' => DCompW H a D od f q kvs ws (n + 1) (ws.length - (n + 1)) H', fun H' hN => ⟨ws.length - (n + 1), by omega, hN⟩, fun x H' hy => ?_⟩
    obtain ⟨rfl, kk, y, hk, rfl⟩ := hy
    obtain ⟨p, hp⟩ : ∃ p, kvs[n]? = some p := ⟨kvs[n]'(by omega), List.getElem?_eq_getElem (by omega)⟩
    have ek : p.1 = kk := by
      obtain ⟨w, hw⟩ := q2.get hp
      rw [hk] at hw
      exact (congrArg Prod.fst (Option.some.inj hw)).symm
    obtain ⟨v, hpv⟩ := hv p (List.mem_of_getElem? hp)
    rw [ek] at hpv
    obtain ⟨u, hu, ru⟩ := (q2.val kk).1 _ hpv
    cases ru.int_
    have hnd : (dcompP f q kvs)[n]? = some (.int (f q kk v)) := by
      unfold dcompP
      rw [List.getElem?_map, hp, Option.map_some, ek, hpv]; rfl
    have ej : ((wipe σ [j]).set j (some (kV kk)))[j]? = some (some (kV kk)) := by
      rw [List.getElem?_set_self (by rw [wipe_length]; exact hjs)]
    have eI : ∀ l, l ≠ j → ((wipe σ [j]).set j (some (kV kk)))[l]? = σ[l]? := fun l hl => by
      show ((σ.set j none).set j (some (kV kk)))[l]? = _
      rw [List.getElem?_set_ne (Ne.symm hl), List.getElem?_set_ne (Ne.symm hl)]
    refine ⟨?_, ?_⟩
    · show ((σ.set j none).set j (some (kV kk))).set j none = σ.set j none
      rw [List.set_set, List.set_set]
    unfold tYes
    dsimp only
    rw [if_pos rfl]
    refine he _ _ a od ws kk v q _ (by rw [eI i hij]; exact ha) ej (by rw [eI m hmj]; exact hm) h1 hu ?_
    refine ⟨_, h2, ?_, rfl, by omega, by rw [upd_ne (Ne.symm hDa)]; exact h1, ?_, fun b o hb hba => ?_⟩
    · rw [List.length_map, List.length_take]; omega
    · rw [upd_same, List.take_succ, hnd, Option.toList, List.map_append]; rfl
    · have b1 := h5 b o hb hba
      by_cases bD : b = D
      · rw [bD, hD0] at hb; cases hb
      · rw [upd_ne bD]; exact b1
  · have en : n = ws.length := by omega
    refine .inl ⟨⟨h1, by omega⟩, h1, ?_⟩
    rw [List.take_of_length_le (by omega)] at h2
    have sm : Same (upd H D (.lst ((dcompP f q kvs).map fun x => V.int (intOfP (some x))))) (upd H2 a (.dK ws)) := fun b o hb => by
      by_cases ba : b = a
      · subst ba
        rw [upd_ne (Ne.symm hDa), q1] at hb
        rw [upd_same]; exact hb
      · rw [upd_ne ba]
        by_cases bD : b = D
        · subst bD
          rw [upd_same] at hb
          rw [h2]; exact hb
        · rw [upd_ne bD] at hb
          exact h5 b o hb ba
    have hnw : Nw H D := Nw.of hD0
    have nF : ¬ F D := fun z => R.tr D z hnw
    refine k (dcompP f q kvs) η D _ _ hP (.same fun b o hb => sm b o (Same.new hD0 b o hb)) ((R.add (o := .lst _) hD0 (fun ps z => by cases z)).same sm) hnw nF (by rw [upd_ne hDa]; exact h2) ?_
    refine Reps.of_get (by rw [List.length_map]) fun l x v hx hv2 => ?_
    rw [List.getElem?_map, hx] at hv2
    cases hv2
    unfold dcompP at hx
    rw [List.getElem?_map] at hx
    obtain ⟨kv, _, rfl⟩ := Option.map_eq_some_iff.mp hx
    exact rep_int
theorem delt_val (i j m : Nat) : DElt (tDGet (tVar i) (tVar j)) i j m fun _ _ v => v := fun σ' H' a od ws kk v q Q hi hj _ ha hv hq =>
  ⟨_, hi, _, hj, a, .int v, rfl, .inl ⟨ws, kk, .inr ⟨od, ha⟩, rfl, hv.symm⟩, hq⟩
def moreF (q : Int) (k : Key) (v : Int) : Int := v + match k with
  | .inl k => if k = q then 0 else 1
  | .inr _ => 1
theorem delt_more (i j m : Nat) : DElt (tOp (rI0 fun i j => .int (i + j)) (tDGet (tVar i) (tVar j)) (tCB (fun xs H Q => (∃ i, xs = [.int i] ∧ Q (.int i) H) ∨ ∃ k, xs = [.bl k] ∧ Q (.int (if k then 1 else 0)) H) (tCons (tOp rNe (tVar j) (tVar m)) tNil))) i j m moreF := fun σ' H' a od ws kk v q Q hi hj hm ha hv hq => by
  refine ⟨_, hi, _, hj, a, .int v, rfl, .inl ⟨ws, kk, .inr ⟨od, ha⟩, rfl, hv.symm⟩, ?_⟩
  refine ⟨_, hj, _, hm, ?_, ?_⟩
  · cases kk <;> rfl
  refine .inr ⟨_, rfl, v, _, rfl, rfl, ?_⟩
  have e : v + (if (!decide (kV kk = V.int q)) = true then (1 : Int) else 0) = moreF q kk v := by
    unfold moreF
    cases kk with
    | inl k =>
      by_cases h : k = q
      · simp [kV, h]
      · simp [kV, h]
    | inr w => simp [kV]
  show Q (V.int (v + _)) H'
  rw [e]
  exact hq
end
theorem w_dcomp {η : EP'} {QA : List PV → EP' → Prop} {i j m : Nat} {f : Int → Key → Int → Int} {kvs : List (Key × PV)} {q : Int} (hij : i ≠ j) (hmj : m ≠ j) (hj : j < η.length) (e : η[i]? = some (Sl.va (.dic kvs))) (em : η[m]? = some (Sl.va (.int q))) (l : kvs.length < sizeLine) (hv : ∀ p ∈ kvs, ∃ v, valP kvs p.1 = some (.int v)) (h : QA (dcompP f q kvs) η) : tDCompP i j m f η QA := ⟨hij, hmj, hj, kvs, q, e, em, l, hv, h⟩
end Z
namespace Z
open PySem PySem.Spec L2
open PyProof.Rows hiding St
section
variable {X : Cx}
end
end Z
set_option Elab.async false
set_option linter.all false
set_option maxRecDepth 100000
/-! a op b op' c op'' d as a test; t <= u of tuples of ints -/
namespace Z
open PySem PySem.Spec L2
open PyProof.Rows hiding St
section
variable {X : Cx} {a b c d : Expr} {ta tb tc td : TE} {pos : Pos}
end
section
variable {X : Cx} {T : List (Addr × Str)} {a b c d : Expr} {ta tb tc td : TEp} {pos : Pos}
end
end Z
set_option Elab.async false
set_option linter.all false
set_option maxRecDepth 100000
/-! [.. for x in xs for y in ys if ..] -/
namespace Z
open PySem PySem.Spec L2
open PyProof.Rows hiding St
end Z
namespace Z
open PySem PySem.Spec L2
open PyProof.Rows hiding St
section
variable {X : Cx} {T : List (Addr × Str)}
end
end Z
set_option Elab.async false
set_option linter.all false
namespace Z
open PySem PySem.Spec L2
open PyProof.Rows hiding St
variable {X : Cx}
section
variable {T : List (Addr × Str)} {k : Nat} {f : Addr} {fd : FuncData} {ps : List Str} {sp : SpP} {x : Str} {p pos : Pos}
end
end Z
set_option Elab.async false
set_option linter.all false
set_option maxRecDepth 100000
/-! own.pop(), while own, list(x) as an own list, own[i] += e, {k: v}, sorted(d) of ints -/
namespace Z
open PySem PySem.Spec L2
open PyProof.Rows hiding St
section
variable {X : Cx} {T : List (Addr × Str)} {e o a b : Expr} {es : List Expr} {te ti tk tv : TEp} {t : TAp} {pos p : Pos} {i : Nat} {st : Stmt} {x : Str}
end
end Z
set_option Elab.async false
set_option linter.all false
set_option maxRecDepth 100000
/-! {k: v} as an own dict, sorted(d) of int keys -/
namespace Z
open PySem PySem.Spec L2
open PyProof.Rows hiding St
section
variable {K : PySem.W.Frag} {T : List (Addr × Str)} {F : Addr → Prop} {σ : St} {η : EP'} {H : Hp} {p : Addr} {u w : HO}
end
section
variable {X : Cx} {T : List (Addr × Str)} {a b : Expr} {tk tv : TEp} {pos : Pos}
end
end Z
set_option Elab.async false
set_option linter.all false
set_option maxRecDepth 100000
set_option maxHeartbeats 1000000
/-! for target in zip(t, l): a tuple beside a list of the same length -/
namespace Z
open PySem PySem.Spec L2 GenW
open PyProof.Rows hiding St
section
variable {P : Program} {w : World} {A : Around} {E : Value → Shared → Prop} {s : Shared}
abbrev zMH0 (h : Heap) (a : Addr) : Heap := h.push { cls := .type "tuple_iterator", data := .fields #[.ref a, .int 0 0] }
abbrev zMH1 (h : Heap) (a l2 : Addr) : Heap := (zMH0 h a).push { cls := .type "list_iterator", data := .fields #[.ref l2, .int 0 0] }
abbrev zMH2 (h : Heap) (a l2 : Addr) : Heap := (zMH1 h a l2).push { cls := .type "tuple", data := .seq #[.ref h.objs.size, .ref (zMH0 h a).objs.size] }
abbrev zMH3 (h : Heap) (a l2 : Addr) : Heap := (zMH2 h a l2).push { cls := .type "tuple", data := .seq #[.none, .none] }
abbrev zMH4 (h : Heap) (a l2 : Addr) : Heap := (zMH3 h a l2).push { cls := .type "zip", data := .fields #[.none, .bool false, .bool false, .ref (zMH1 h a l2).objs.size, .ref (zMH2 h a l2).objs.size] }
theorem meets_zipM_new (a l2 : Addr) (xs ys : Array Value) :
    Meets (Builtin.«zip.__new__» ⟨[.type "zip", .ref a, .ref l2], []⟩) (fun _ R s => s.heap.IsTuple a xs ∧ s.heap.IsList l2 ys ∧
      R (.ok (.ret (.ref (zMH3 s.heap a l2).objs.size))) { s with heap := zMH4 s.heap a l2 }) :=
  .of_wp fun prog w A R s h => by
    obtain ⟨hp, g', d, tk, os⟩ := s; obtain ⟨hl1, hl2, h⟩ := h
    have hsub := sub_zip
    have hL1 : Heap.IsTuple (Shared.heap ⟨hp, g', d, tk, os⟩) a xs := hl1
    have hL2 : Heap.IsList (Shared.heap ⟨hp, g', d, tk, os⟩) l2 ys := hl2
    have hL3 : Heap.IsList (zMH0 hp a) l2 ys := hl2.at fun o q => Heap.get?_push_of_some _ q
    wp_walk using wpAny_pyIter_tuple hL1, wpAny_pyIter_list hL3
    exact ⟨_, rfl, h⟩
end
end Z
set_option Elab.async false
set_option linter.all false
set_option maxRecDepth 100000
set_option maxHeartbeats 1000000
namespace Z
open PySem PySem.Spec L2 GenW
open PyProof.Rows hiding St
section
variable {P : Program} {w : World} {A : Around} {E : Value → Shared → Prop} {s : Shared}
theorem call_zipM {a l2 : Addr} {xs ys : Array Value} {Q : Value → Shared → Prop} (ha : s.heap.IsTuple a xs) (hb : s.heap.IsList l2 ys)
    (h : ∀ h', IsZip h' (s.heap.objs.size + 4) (s.heap.objs.size + 2) (s.heap.objs.size + 3) .none → IsPair h' (s.heap.objs.size + 2) (.ref s.heap.objs.size) (.ref (s.heap.objs.size + 1)) →
      IsPair h' (s.heap.objs.size + 3) .none .none → h'.IsTupleIter s.heap.objs.size a 0 → h'.IsListIter (s.heap.objs.size + 1) l2 0 →
      (∀ c o, s.heap.get? c = some o → h'.get? c = some o) → Q (.ref (s.heap.objs.size + 4)) { s with heap := h' }) :
    wpAny (model P w) A (call (.type "zip") [.ref a, .ref l2]) Q E s := by
  refine callType_new F.called_zip (by decide) (F.typeCall_zip_2 _ _) (F.newCall_zip_2 _ _) (fun obj => F.args_object_init_3 obj _ _) F.entry_zip_new
    (meets_zipM_new a l2 xs ys) ⟨ha, hb, ?_⟩
  have y1 : (zMH0 s.heap a).objs.size = s.heap.objs.size + 1 := Heap.size_push ..
  have y2 : (zMH1 s.heap a l2).objs.size = s.heap.objs.size + 2 := by rw [Heap.size_push, y1]
  have y3 : (zMH2 s.heap a l2).objs.size = s.heap.objs.size + 3 := by rw [Heap.size_push, y2]
  have y4 : (zMH3 s.heap a l2).objs.size = s.heap.objs.size + 4 := by rw [Heap.size_push, y3]
  have e4 : (zMH4 s.heap a l2).get? (zMH3 s.heap a l2).objs.size = some _ := Heap.get?_push_size _ rfl
  have e3 : (zMH4 s.heap a l2).get? (zMH2 s.heap a l2).objs.size = some _ := Heap.get?_push_of_some _ (Heap.get?_push_size _ rfl)
  have e2 : (zMH4 s.heap a l2).get? (zMH1 s.heap a l2).objs.size = some _ := Heap.get?_push_of_some _ (Heap.get?_push_of_some _ (Heap.get?_push_size _ rfl))
  have e1 : (zMH4 s.heap a l2).get? (zMH0 s.heap a).objs.size = some _ := Heap.get?_push_of_some _ (Heap.get?_push_of_some _ (Heap.get?_push_of_some _ (Heap.get?_push_size _ rfl)))
  have e0 : (zMH4 s.heap a l2).get? s.heap.objs.size = some _ := Heap.get?_push_of_some _ (Heap.get?_push_of_some _ (Heap.get?_push_of_some _ (Heap.get?_push_of_some _ (Heap.get?_push_size _ rfl))))
  show _ ∧ _
  rw [y2, y3, y4] at e4
  rw [y3] at e3
  rw [y2, y1] at e2
  rw [y1] at e1
  rw [y4]
  exact ⟨⟨_, e4, rfl⟩, h _ e4 e2 e3 ⟨_, e0, rfl, rfl⟩ ⟨_, e1, rfl, rfl⟩ fun c o x =>
    Heap.get?_push_of_some _ (Heap.get?_push_of_some _ (Heap.get?_push_of_some _ (Heap.get?_push_of_some _ (Heap.get?_push_of_some _ x))))⟩
end
def ItzM (K : PySem.W.Frag) (a b : Addr) : It :=
  ⟨fun j H => ∃ (us vs : List V) (x y : V), SqT K H a us ∧ SqL K H b vs ∧ us[j]? = some x ∧ vs[j]? = some y,
    fun j H v H' => ∃ p x y, v = .ref p ∧ H p = none ∧ H' = upd H p (.tup [x, y]) ∧ (∀ us, SqT K H a us → us[j]? = some x) ∧ ∀ vs, SqL K H b vs → vs[j]? = some y,
    fun j H => ∃ us : List V, SqT K H a us ∧ us.length ≤ j⟩
def standM (z ti to j1 j2 a b : Addr) (i : Nat) (h : Heap) : Prop := IsZip h z ti to .none ∧ IsPair h ti (.ref j1) (.ref j2) ∧ (∃ x y, IsPair h to x y) ∧ h.IsTupleIter j1 a i ∧ h.IsListIter j2 b i
theorem turn_zipM {P : Program} {w : World} {K : PySem.W.Frag} {elts : List Expr} {kk : Nat} {tpos : Pos} {a b z ti to j1 j2 : Addr} (D : ZipApart z ti to j1 j2 a b) :
    Turn P w K (.Tuple elts kk tpos) (ItzM K a b) [z, ti, to, j1, j2] z (standM z ti to j1 j2 a b) where
  mem := by simp
  obj := fun i h ⟨hz, hti, ⟨x, y, hto⟩, ⟨o1, e1, _, d1⟩, ⟨o2, e2, _, d2⟩⟩ c hc => by
    simp only [List.mem_cons, List.not_mem_nil, or_false] at hc
    rcases hc with rfl | rfl | rfl | rfl | rfl
    · exact ⟨_, hz, fun v q => by cases q⟩
    · exact ⟨_, hti, fun v q => by cases q⟩
    · exact ⟨_, hto, fun v q => by cases q⟩
    · exact ⟨o1, e1, fun v q => by rw [q] at d1; cases d1⟩
    · exact ⟨o2, e2, fun v q => by rw [q] at d2; cases d2⟩
  keep := fun i h h' ⟨hz, hti, ⟨x, y, hto⟩, q1, q2⟩ k =>
    ⟨k z (by simp) _ hz, k ti (by simp) _ hti, ⟨x, y, k to (by simp) _ hto⟩, q1.at (k j1 (by simp)), q2.at (k j2 (by simp))⟩
  item := by
    intro X hP hw hK hc i pins s σ H E I hf ⟨hz, hti, ⟨x0, y0, hto⟩, h1, h2⟩ ⟨us, vs, x, y, hus, hvs, hx, hy⟩
    subst hP hw hK
    obtain ⟨ia, ra, pa, _⟩ := I.tuple hus
    obtain ⟨ib, rb, pb, _⟩ := I.list hvs
    obtain ⟨u, hu, ru⟩ := ra.get hx
    obtain ⟨v, hv, rv⟩ := rb.get hy
    obtain ⟨oa, hoa, ca, na, da⟩ := (show s.heap.IsTuple a ia.toArray from pa)
    let N : Value → Shared → Prop := fun t s2 => t = u ∧ Inv X pins σ H s2 ∧ s2.heap.IsTupleIter j1 a (i + 1) ∧ (∀ c o, c ≠ z → c ≠ j1 → s.heap.get? c = some o → s2.heap.get? c = some o) ∧ z < s2.heap.objs.size
    refine pyNext_zipN hz fun E1 _ => zipN_item (N := N) D.TIz D.TOz D.TOi2 D.i2z D.l2z D.l2TO hz hti hto h2 pb.isList (y := v) (by simpa using hv) (fun g1 Q1 E1 hz1 k1 cont => ?_) fun t s4 h' hN hz' hto' hj2 hT hk => ?_
    · refine RZ.nextOf_tuple_item (s := { s with heap := g1 }) (items := ia.toArray) (x := u) (h1.at fun o q => k1 j1 o D.i1z q) ⟨oa, k1 a oa D.l1z hoa, ca, na, da⟩ (by simpa using hu) fun g2 hit sb => ?_
      have kz : ∀ c o, c ≠ j1 → g1.get? c = some o → g2.get? c = some o := fun c o hc q => (sb.2 c hc).trans q
      refine cont u { s with heap := g2 } ⟨rfl, ?_, hit, fun c o c1 c2 q => kz c o c2 (k1 c o c1 q), Heap.lt_size (kz z _ D.i1z.symm hz1)⟩ fun c o hc q => kz c o (fun e => ?_) q
      · exact I.turnedL (h' := g2) (t' := s.toks) (ch := [z, j1]) (fun c o hb q => kz c o (fun e => hb (by simp [e])) (k1 c o (fun e => hb (by simp [e])) q)) fun c hb => hf c (by
          simp only [List.mem_cons, List.not_mem_nil, or_false] at hb ⊢
          rcases hb with rfl | rfl
          · exact .inl rfl
          · exact .inr (.inr (.inr (.inl rfl))))
      · rcases hc with rfl | rfl | rfl | rfl
        · exact D.i1z e.symm
        · exact D.TOi1 e
        · exact D.i12 e.symm
        · exact D.l2i1 e
    · obtain ⟨rfl, I4, hit4, keep4, ltz⟩ := hN
      refine ⟨_, rfl, wpAny_letOwnedTupleGo_zip (s := { s4 with heap := h' }) hz' fun h5 hz5 sb => ?_⟩
      have keep5 : ∀ c o, c ≠ z → c ≠ to → c ≠ j2 → s4.heap.get? c = some o → h5.get? c = some o := fun c o c1 c2 c3 q => (sb.2 c c1).trans (hk c o c1 c2 c3 q)
      have hT5 : h5.get? s4.heap.objs.size = some { cls := .type "tuple", data := .seq #[t, v] } := (sb.2 _ (Nat.ne_of_gt ltz)).trans hT
      have hp0 : H s4.heap.objs.size = none := I4.hok.fresh (Nat.le_refl _)
      have o1 := keep4 ti _ D.TIz D.TIi1 hti
      have o2 := keep4 to _ D.TOz D.TOi1 hto
      obtain ⟨p2, w2, w2c, w2d⟩ := id h2
      have o3 := keep4 j2 _ D.i2z D.i12.symm w2
      obtain ⟨p1, w1, w1c, w1d⟩ := id hit4
      have nob : ObjOk X.prog X.w (upd H s4.heap.objs.size (.tup [x, y])) h5 s4.heap.objs.size (.tup [x, y]) :=
        ⟨by show 2 ≤ sizeLine; decide, [t, v], .cons ru (.cons rv .nil), ⟨_, hT5, rfl, _, rfl⟩⟩
      have I5 : Inv X pins σ (upd H s4.heap.objs.size (.tup [x, y])) { s4 with heap := h5 } :=
        I4.turnedNew (t' := s4.toks) (ch := [z, to, j2]) (fun c o hb q => keep5 c o (fun e => hb (by simp [e])) (fun e => hb (by simp [e])) (fun e => hb (by simp [e])) q)
          (fun c hb => hf c (by
            simp only [List.mem_cons, List.not_mem_nil, or_false] at hb ⊢
            rcases hb with rfl | rfl | rfl
            · exact .inl rfl
            · exact .inr (.inr (.inl rfl))
            · exact .inr (.inr (.inr (.inr rfl))))) (Nat.le_refl _) nob
      refine ⟨.ref s4.heap.objs.size, _, I5, rfl, ⟨_, x, y, rfl, hp0, rfl, fun l hl => by rw [I.tuple_inj hl hus]; exact hx, fun l hl => by rw [I.list_inj hl hvs]; exact hy⟩, ⟨hz5, ?_, ⟨t, v, ?_⟩, ?_, ?_⟩, fun c hc => ?_⟩
      · exact keep5 ti _ D.TIz D.TITO D.TIi2 o1
      · exact (sb.2 to D.TOz).trans hto'
      · exact hit4.at fun o q => keep5 j1 o D.i1z D.TOi1.symm D.i12 q
      · exact hj2.at fun o q => (sb.2 j2 D.i2z).trans q
      · have lt : c < s4.heap.objs.size := by
          simp only [List.mem_cons, List.not_mem_nil, or_false] at hc
          rcases hc with rfl | rfl | rfl | rfl | rfl
          · exact ltz
          · exact Heap.lt_size o1
          · exact Heap.lt_size o2
          · exact Heap.lt_size w1
          · exact Heap.lt_size o3
        rw [upd_ne (Nat.ne_of_lt lt)]
        exact (hf c hc).1
  done := by
    intro X hP hw hK hc i pins s σ H E I hf ⟨hz, hti, ⟨x0, y0, hto⟩, h1, h2⟩ ⟨us, hus, hend⟩
    subst hP hw hK
    obtain ⟨ia, ra, pa, _⟩ := I.tuple hus
    obtain ⟨oa, hoa, ca, na, da⟩ := (show s.heap.IsTuple a ia.toArray from pa)
    have la := ra.length
    refine pyNext_zipN hz fun E1 hE1 => zipN_end (N := fun s2 => Inv X pins σ H s2) hz hti hto (fun g1 Q1 E2 hz1 k1 cont => ?_) fun s2 h' e hN hk he => hE1 e _ he ⟨rfl, ?_⟩
    · refine RZ.nextOf_tuple_end (s := { s with heap := g1 }) (items := ia.toArray) (I.ok.hd hc) (h1.at fun o q => k1 j1 o D.i1z q) ⟨oa, k1 a oa D.l1z hoa, ca, na, da⟩ (by simp; omega) fun g2 e ext he => ?_
      refine cont e { s with heap := g2 } ?_ he fun o q => ext z o D.i1z.symm q
      exact I.turnedL (h' := g2) (t' := s.toks) (ch := [z, j1]) (fun c o hb q => ext c o (fun e => hb (by simp [e])) (k1 c o (fun e => hb (by simp [e])) q)) fun c hb => hf c (by
        simp only [List.mem_cons, List.not_mem_nil, or_false] at hb ⊢
        rcases hb with rfl | rfl
        · exact .inl rfl
        · exact .inr (.inr (.inr (.inl rfl))))
    · exact hN.turnedL (t' := s2.toks) (ch := [z]) (fun c o hb q => hk c o (by simpa using hb) q) fun c hb => by
        rw [List.mem_singleton.mp hb]; exact hf z (by simp)
  self := fun A i s Q E st h => wpAny_pyIter_zip st.1 h
end Z
set_option Elab.async false
set_option linter.all false
set_option maxRecDepth 100000
/-! zip(t, l) in a for -/
namespace Z
open PySem PySem.Spec L2
open PyProof.Rows hiding St
section
variable {X : Cx} {T : List (Addr × Str)} {e e2 : Expr} {t : TAp}
def iZipMK (K : PySem.W.Frag) (ta : TA) : TI := fun σ H R => ta σ H fun vs H1 => ∃ a b us ws, vs = [.ref a, .ref b] ∧ SqT K H1 a us ∧ SqL K H1 b ws ∧ R (ItzM K a b) H1
theorem pi_zipM {ta : TA} {p pos tpos : Pos} {elts : List Expr} {kk : Nat} (hg : Gl X "zip") (hm : X.mg "zip" = none) (ha : PA X [e, e2] ta)
    (hs : starEach [e, e2] X.env = (false, eval e X.env) :: starEach [e2] X.env := by rfl) (hpl : (backTo pos (starEach [e2] X.env)).any (·.1) = false := by rfl) :
    PI X (.Tuple elts kk tpos) (.Call (.Name "zip" p) [e, e2] [] pos) (iZipMK X.K ta) := by
  refine ⟨fun pins s σ H R I h => Call_ (ld_blt I hg hm PyProof.Rows.boot_zip (PyProof.Rows.callWith_type1 (thn (ha.run pos pins s σ H _ I h) fun us s1 hu => ?_) hs hpl))⟩
  obtain ⟨vs, H1, I1, r1, a, b, as, bs, rfl, ht, hl, q⟩ := hu
  cases r1 with
  | cons ra rr =>
    cases rr with
    | cons rb rn =>
      cases rn
      cases ra
      cases rb
      obtain ⟨ia, _, pa, _⟩ := I1.tuple ht
      obtain ⟨ib, _, pb, _⟩ := I1.list hl
      have pt : s1.heap.IsTuple a ia.toArray := pa
      obtain ⟨oa, hoa, _⟩ := id pt
      refine call_zipM pt pb.isList fun h' hz hti hto h1 h2 hk => wpAny_pyIter_zip hz ?_
      have I2 : Inv X pins σ H1 { s1 with heap := h' } := I1.kept (t' := s1.toks) hk
      refine ⟨s1.heap.objs.size + 4, [s1.heap.objs.size + 4, s1.heap.objs.size + 2, s1.heap.objs.size + 3, s1.heap.objs.size, s1.heap.objs.size + 1], _, _, H1, rfl, I2, turn_zipM (PySem.W.ktu_apart s1.heap.objs.size a b (Heap.lt_size hoa) pb.lt), ⟨hz, hti, ⟨_, _, hto⟩, h1, h2⟩, fun c hc => ?_, q⟩
      have hle : s1.heap.objs.size ≤ c := by
        simp only [List.mem_cons, List.not_mem_nil, or_false] at hc
        rcases hc with rfl | rfl | rfl | rfl | rfl
        · exact Nat.le_add_right _ _
        · exact Nat.le_add_right _ _
        · exact Nat.le_add_right _ _
        · exact Nat.le_refl _
        · exact Nat.le_add_right _ _
      exact I1.fpOk hle (I1.hok.fresh hle)
theorem it_zipM {K : PySem.W.Frag} {O H} {a b : Addr} {xs ys : List PV} {vs us : List V} (hle : xs.length ≤ ys.length) (t1 : TupAt K O H a vs) (n2 : ¬ O b) (t2 : H b = some (.lst us)) (r1 : Reps K O H xs vs) (r2 : Reps K O H ys us) : Itr8 K O (ItzM K a b) (zipP xs ys) H := fun O' H' tr c _ i => by
  have h1 := t1.inj_car c
  have h2 : SqL K H' b us := SqL.of (c b _ n2 t2 nofun).1
  have s1 := r1.car c
  have s2 := r2.car c
  refine ⟨fun z e => ?_, fun e => ⟨vs, h1, by rw [s1.len, ← e, zipP_len hle]; exact Nat.le_refl _⟩⟩
  obtain ⟨x, y, hx, hy, rfl⟩ := zipP_get e
  obtain ⟨v, e1, q1⟩ := s1.get hx
  obtain ⟨u, e2, q2⟩ := s2.get hy
  refine ⟨⟨vs, us, v, u, h1, h2, e1, e2⟩, fun w H'' q => ?_⟩
  obtain ⟨p, x', y', rfl, hp, rfl, kx, ky⟩ := q
  have k1 := kx vs h1
  have k2 := ky us h2
  rw [e1] at k1; cases k1
  rw [e2] at k2; cases k2
  exact ⟨Same.new hp, rep_newT tr hp (.cons q1 (.cons q2 .nil))⟩
def iZipMP (t : TAp) : TIp := fun η P => t η fun zs η1 => match zs with
  | [.tup xs, .lst ys] => xs.length ≤ ys.length ∧ P (zipP xs ys) η1
  | _ => False
theorem zi_zipM {p pos tpos : Pos} {elts : List Expr} {kk : Nat} (hg : Gl X "zip") (hm : X.mg "zip" = none) (ha : PA X [e, e2] (upA X.K T t))
    (hs : starEach [e, e2] X.env = (false, eval e X.env) :: starEach [e2] X.env := by rfl) (hpl : (backTo pos (starEach [e2] X.env)).any (·.1) = false := by rfl) :
    PI X (.Tuple elts kk tpos) (.Call (.Name "zip" p) [e, e2] [] pos) (upI X.K T (iZipMP t)) := by
  refine PI.weak (pi_zipM hg hm ha hs hpl) fun σ H Q q => ?_
  obtain ⟨F, η, P, R, h, k⟩ := q
  refine ⟨F, η, _, R, h, fun zs η1 vs H1 h1 e1 R1 r1 => ?_⟩
  split at h1
  · obtain ⟨v, w, rfl, ra, rb⟩ := r1.two
    obtain ⟨a, vs, rfl, q, rr⟩ := ra.tup_
    obtain ⟨b, us, rfl, n2, q2, rr2⟩ := rb.lst_
    exact ⟨a, b, vs, us, rfl, q.sq, SqL.of q2, k _ _ _ _ h1.2 e1 R1 (it_zipM h1.1 q n2 q2 rr rr2)⟩
  · cases h1
end
end Z
set_option Elab.async false
set_option linter.all false
set_option maxRecDepth 100000
/-! enumerate of a list -/
namespace Z
open PySem PySem.Spec L2
open PyProof.Rows hiding St
section
variable {X : Cx} {T : List (Addr × Str)} {e : Expr} {te : TEp}
end
end Z
set_option Elab.async false
set_option linter.all false
set_option maxRecDepth 100000
/-! own.pop(e); list(range(a, b)) as an own list -/
namespace Z
open PySem PySem.Spec L2
open PyProof.Rows hiding St
section
variable {X : Cx} {T : List (Addr × Str)} {e o a b : Expr} {es : List Expr} {te ta tb : TEp} {i : Nat}
end
end Z
set_option Elab.async false
set_option linter.all false
set_option maxRecDepth 100000
/-! k in own dict as a test; name = [..] on one line, as an own list -/
namespace Z
open PySem PySem.Spec L2
open PyProof.Rows hiding St
section
variable {X : Cx} {T : List (Addr × Str)} {e o a b : Expr} {es : List Expr} {te ti : TEp} {i : Nat} {pos : Pos}
end
end Z
set_option Elab.async false
set_option linter.all false
set_option maxRecDepth 100000
/-! own op e: the own list stays own -/
namespace Z
open PySem PySem.Spec L2
open PyProof.Rows hiding St
section
variable {X : Cx} {T : List (Addr × Str)} {e o a b : Expr} {es : List Expr} {te ti : TEp} {i : Nat} {pos : Pos}
end
end Z
set_option Elab.async false
set_option linter.all false
set_option maxRecDepth 100000
/-! set(t) of a tuple of ints; sorted(set(t)) -/
namespace Z
open PySem PySem.Spec L2
open PyProof.Rows hiding St
section
variable {prog : Program} {w : World} {A : Around} {E : Value → Shared → Prop} {s : Shared}
end
section
variable {X : Cx}
variable {T : List (Addr × Str)} {e : Expr} {te ta tb : TEp}
end
end Z
set_option Elab.async false
set_option linter.all false
namespace Z
open PySem PySem.Spec L2
open PyProof.Rows hiding St
variable {X : Cx}
section
variable {T : List (Addr × Str)} {k : Nat} {f : Addr} {fd : FuncData} {ps : List Str} {sp : SpP} {x : Str} {p pos : Pos}
end
end Z
set_option Elab.async false
set_option linter.all false
set_option maxRecDepth 100000
/-! dicts of the module: keys walked, items by written keys, a def out of a dict called with a star -/
namespace Z
open PySem PySem.Spec L2
open PyProof.Rows hiding St
def KeysAre : List DictEntry → List Str → Prop
  | [], [] => True
  | e :: r, k :: ks => (∃ t, e.key = .str k t) ∧ KeysAre r ks
  | _, _ => False
theorem KeysAre.at_ : ∀ {es : List DictEntry} {ks : List Str}, KeysAre es ks → es.length = ks.length ∧ ∀ (i : Nat) (k : Str), ks[i]? = some k → ∃ en t, es[i]? = some en ∧ en.key = .str k t
  | [], [], _ => ⟨rfl, fun i k z => by simp at z⟩
  | e :: r, k :: ks, h => by
    obtain ⟨⟨t, ht⟩, h2⟩ := h
    obtain ⟨h3, h4⟩ := h2.at_
    refine ⟨by rw [List.length_cons, List.length_cons, h3], fun i k' z => ?_⟩
    cases i with
    | zero => simp at z; subst z; exact ⟨e, t, rfl, ht⟩
    | succ i => obtain ⟨en, t', a, b⟩ := h4 i k' (by simpa using z); exact ⟨en, t', by simpa using a, b⟩
  | [], _ :: _, h => h.elim
  | _ :: _, [], h => h.elim
def ItkK (ks : List Str) : It := ⟨fun i _ => i < ks.length, fun i H x H' => H' = H ∧ ∃ k, ks[i]? = some k ∧ x = .str k, fun i _ => ks.length ≤ i⟩
section
variable {P : Program} {w : World} {K : PySem.W.Frag} {tg : Expr} {d : Addr} {es : Array DictEntry} {n : Nat} {ks : List Str}
theorem turn_kd (D : KDict K w d es n) (hk : KeysAre es.toList ks) (it : Addr) : Turn P w K tg (ItkK ks) [it] it (fun i h => h.IsKeyIter it d i ks.length n) where
  mem := by simp
  obj := fun i h st b hb => by
    have e : b = it := by simpa using hb
    subst e
    obtain ⟨oi, e, c, dd⟩ := st
    exact ⟨oi, e, fun v z => by rw [dd] at z; cases z⟩
  keep := fun i h h' st k => st.at fun oi e => k it (by simp) oi e
  item := by
    intro X hP hw hK hc i pins s σ H E I hf st hg
    subst hP hw hK
    obtain ⟨f0, f1, f2, f3, f4, f5⟩ := hf it (by simp)
    have hgd : s.heap.get? d = some ⟨.type "dict", none, .dict es n, #[]⟩ := I.kIn _ _ D.at_
    obtain ⟨hl, hent⟩ := hk.at_
    have hg' : i < ks.length := hg
    obtain ⟨en, t, hen, hkey⟩ := hent i ks[i] (List.getElem?_eq_getElem hg')
    have hen' : es[i]? = some en := by rw [← Array.getElem?_toList]; exact hen
    refine next_key_item st hgd rfl (by rw [← hl, Array.length_toList]) hen' fun h' st' sb => ?_
    have I1 : Inv X pins σ H { s with heap := h' } := I.turned (t' := s.toks) (fun b ob hb e => (sb.2 b hb).trans e) f0 f1 f3 f4 f5
    obtain ⟨oi, e, c, dd⟩ := id st'
    exact ⟨en.key, rfl, go_of (s := { s with heap := h' }) e c dd (by decide) ⟨.str ks[i], H, I1, ⟨t, hkey⟩, ⟨rfl, ks[i], List.getElem?_eq_getElem hg', rfl⟩, st', fun b hb => (hf b hb).1⟩⟩
  done := by
    intro X hP hw hK hc i pins s σ H E I hf st hg
    subst hP hw hK
    obtain ⟨f0, f1, f2, f3, f4, f5⟩ := hf it (by simp)
    have hgd : s.heap.get? d = some ⟨.type "dict", none, .dict es n, #[]⟩ := I.kIn _ _ D.at_
    obtain ⟨hl, _⟩ := hk.at_
    exact next_key_end (I.ok.hd hc) st hgd rfl (by rw [← hl, Array.length_toList]) hg fun h' eb => ⟨rfl, I.turned (t' := s.toks) (fun b ob hb e => eb b ob hb e) f0 f1 f3 f4 f5⟩
  self := fun A i s Q E st h => wpAny_pyIter_keyiter st h
end
section
variable {X : Cx} {T : List (Addr × Str)} {tg e w : Expr} {es : List Expr} {td : TE} {tw : TEp} {ta : TAp} {d : Addr} {ents : Array DictEntry} {n k i : Nat} {ks : List Str} {S x : Str} {p p1 p2 p3 p4 p5 p6 p7 pos : Pos}
theorem pi_kd (D : KDict X.K X.w d ents n) (hk : KeysAre ents.toList ks) (he : PE X e td) : PI X tg e (fun σ H R => td σ H fun x H1 => x = .ref d ∧ R (ItkK ks) H1) := by
  refine ⟨fun pins s σ H R I h => ?_⟩
  refine thn (he.run pins s σ H _ I h) fun u s1 ⟨x, H1, I1, rx, ex, q⟩ => ?_
  subst ex
  obtain rfl : u = Value.ref d := rx
  have hgd : s1.heap.get? d = some ⟨.type "dict", none, .dict ents n, #[]⟩ := I1.kIn _ _ D.at_
  refine iter_keys D.low hgd ⟨rfl, rfl, rfl⟩ rfl (pi_one (tk := s1.toks) I1 _ (turn_kd D hk _) ⟨_, Heap.get?_push_size _ rfl, rfl, ?_⟩ q)
  rw [show ks.length = ents.size from by rw [← hk.at_.1, Array.length_toList]] <;> rfl
def iKdP (ks : List Str) : TIp := fun η P => P (ks.map .str) η
theorem it_kd {K : PySem.W.Frag} {O H} : Itr8 K O (ItkK ks) (ks.map .str) H := fun O' H' tr c _ i => by
  refine ⟨fun x e => ?_, fun e => ?_⟩
  · rw [List.getElem?_map] at e
    obtain ⟨z, hz, rfl⟩ := Option.map_eq_some_iff.mp e
    refine ⟨(List.getElem?_eq_some_iff.mp hz).1, fun v H'' y => ?_⟩
    obtain ⟨e2, z', e3, rfl⟩ := y
    subst e2
    rw [hz] at e3; cases e3
    exact ⟨Same.refl _, rep_str⟩
  · show ks.length ≤ i
    rw [List.length_map] at e; omega
theorem zi_kd (D : KDict X.K X.w d ents n) (hk : KeysAre ents.toList ks) (hg : Gl X S) (hm : X.mg S = some (.ref d)) (hd : (S == ("__debug__" : Str)) = false := by decide) : PI X tg (.Name S p) (upI X.K T (iKdP ks)) := by
  refine PI.weak (pi_kd D hk (pe_glob (v := .ref d) hg hm rfl hd)) fun σ H Q q => ?_
  obtain ⟨F, η, P, R, h, k⟩ := q
  exact ⟨rfl, k _ _ _ _ h .refl R it_kd⟩
/-! items -/
theorem ix_kd (D : KDict X.K X.w d ents n) : IxR X (fun x y H Q => ∃ (z : Str) (u0 : Value) (v0 : V), x = .ref d ∧ y = .str z ∧ PySem.W.nsIn X.K d z = some (some u0) ∧ RelV v0 u0 ∧ Q v0 H) := by
  intro value slice pins s σ H x y v u Q I rx ry h hs
  have hT := kd_type D I
  have h' := op_item_kd D pins s σ H x y v u Q I rx ry h
  obtain ⟨z, u0, v0, rfl, rfl, e, r, q⟩ := h
  cases rx
  exact tail_any hT F.slot_dict_getitem.lookup h' hs
def tKdP (tab : List (Str × PV)) (tw : TEp) : TEp := fun η Q => tw η fun x η1 => ∃ z y, x = .str z ∧ tab.lookup z = some y ∧ Q y η1
def KOk (K : PySem.W.Frag) (d : Addr) (tab : List (Str × PV)) : Prop := ∀ z y, tab.lookup z = some y → ∃ u v, PySem.W.nsIn K d z = some (some u) ∧ RelV v u ∧ ∀ O H, Rep K O H y v
theorem kok_nil {K : PySem.W.Frag} : KOk K d [] := fun z y h => by simp at h
theorem kok_int {K : PySem.W.Frag} {tab : List (Str × PV)} {z : Str} {j : Int} {t : Tok} (h : PySem.W.nsIn K d z = some (some (.int j t))) (r : KOk K d tab) : KOk K d ((z, .int j) :: tab) := fun z' y q => by
  by_cases c : z' = z
  · subst c
    rw [List.lookup_cons_self] at q
    cases q
    exact ⟨_, .int j, h, ⟨t, rfl⟩, fun _ _ => rep_int⟩
  · rw [List.lookup_cons, show (z' == z) = false from by simpa using c] at q
    exact r z' y q
theorem z_kd {tab : List (Str × PV)} (D : KDict X.K X.w d ents n) (hT : KOk X.K d tab) (hg : Gl X S) (hm : X.mg S = some (.ref d)) (pw : PE X w (up X.K T tw)) (hs : PlainIx w := by exact fun _ _ => rfl) (hd : (S == ("__debug__" : Str)) = false := by decide) :
    PE X (.Subscript (.Name S p) w pos) (up X.K T (tKdP tab tw)) := by
  refine PE.weak (pe_ix (ix_kd D) (pe_glob (v := .ref d) hg hm rfl hd) pw hs) fun σ H Q q => ?_
  obtain ⟨F, η, P, R, h, k⟩ := q
  refine ⟨F, η, _, R, h, fun x1 η1 v1 H1 h1 e1 R1 r1 => ?_⟩
  obtain ⟨z, y, rfl, hz, h2⟩ := h1
  obtain ⟨u, v, hn, hr, hrep⟩ := hT z y hz
  exact ⟨z, u, v, rfl, r1.str_, hn, hr, k _ _ _ _ h2 e1 R1 (hrep _ _)⟩
/-! a def out of a dict -/
structure HeldS (X : Cx) (k : Nat) (f : Addr) (sp : Sp) : Prop where
  ex : ∃ (fd : FuncData) (ps : List Str), FnOk X.prog X.w X.K X.mg X.base CX0 k f fd ps sp ∧ PySem.W.keepIn X.K (.ref f) = true ∧ Binds X.K fd ps []
def tCallXS (X : Cx) (k i : Nat) (t : TA) : TE := fun σ H Q => ∃ f sp, HeldS X k f sp ∧ σ[i]? = some (some (.ref f)) ∧ t σ H fun vs H1 => sp vs H1 Q E0
theorem pe_callXS {t : TA} (hr : Room k X.A) (hN : X.N[i]? = some x) (hv : Vis X.env.scope x) (ha : PA X (e :: es) t)
    (hdb : (x == ("__debug__" : Str)) = false := by decide) (hcd : (x == ("__classdict__" : Str)) = false := by decide)
    (he : starEach (e :: es) X.env = (false, eval e X.env) :: starEach es X.env := by rfl) (hst : (backTo pos (starEach es X.env)).any (·.1) = true := by rfl) : PE X (.Call (.Name x p) (e :: es) [] pos) (tCallXS X k i t) := by
  refine ⟨fun pins s σ H Q I h => ?_⟩
  obtain ⟨f, sp, ⟨fd, ps, F, hk, hb⟩, hs, ht⟩ := h
  refine wpAny_Call_Name_kw (thn ((pe_var (pos := p) hN hv hdb hcd).run pins s σ H (fun v H1 => v = .ref f ∧ H1 = H) I ⟨.ref f, hs, rfl, rfl⟩) fun u s1 ⟨v, H1, I1, r1, q1⟩ => ?_)
  obtain ⟨rfl, rfl⟩ := q1
  cases r1
  refine PySem.W.callWith_S2 (h₀ := X.base) I.ok.mod.kin hk (thn (ha.run pos pins s1 σ _ _ I1 ht) fun us s2 ⟨vs, H2, I2, r, q⟩ => ⟨I2.kIn, ?_⟩) he hst
  exact wpAny_call (run_fnR (F.raw hb .nil) hr pass0 I2 r (show sp (vs ++ []) H2 Q E0 by rw [List.append_nil]; exact q))
def tJudgeP (i : Nat) (tab : List (Str × SpP)) (tw : TEp) (ta : TAp) : TSp := fun D η => tw η fun x η1 => ∃ z sp, x = .str z ∧ tab.lookup z = some sp ∧ i < η1.length ∧ ∀ v, ta (η1.set i (.va v)) fun args η2 => sp args fun r => D.rt r η2
def JOk (X : Cx) (T : List (Addr × Str)) (d : Addr) (k : Nat) (tab : List (Str × SpP)) : Prop := ∀ z sp, tab.lookup z = some sp → ∃ f, PySem.W.nsIn X.K d z = some (some (.ref f)) ∧ HeldS X k f (upSp X.K T sp)
theorem jok_nil : JOk X T d k [] := fun z y h => by simp at h
theorem jok_cons {tab : List (Str × SpP)} {z : Str} {sp : SpP} {f : Addr} {fd : FuncData} {ps : List Str} (h : PySem.W.nsIn X.K d z = some (some (.ref f))) (Fn : FnOk X.prog X.w X.K X.mg X.base CX0 k f fd ps (upSp X.K T sp)) (hk : PySem.W.keepIn X.K (.ref f) = true) (hb : Binds X.K fd ps [])
    (r : JOk X T d k tab) : JOk X T d k ((z, sp) :: tab) := fun z' y q => by
  by_cases c : z' = z
  · subst c
    rw [List.lookup_cons_self] at q
    cases q
    exact ⟨f, h, fd, ps, Fn, hk, hb⟩
  · rw [List.lookup_cons, show (z' == z) = false from by simpa using c] at q
    exact r z' y q
theorem zs_judge {tab : List (Str × SpP)} (D : KDict X.K X.w d ents n) (hJ : JOk X T d k tab) (hg : Gl X S) (hm : X.mg S = some (.ref d)) (hr : Room k X.A) (nd : X.N.Nodup) (hi : X.N[i]? = some x) (hx : Loc X.env.scope x) (hv : Vis X.env.scope x)
    (pw : PE X w (up X.K T tw)) (pa : PA X (e :: es) (upA X.K T ta)) (hs : PlainIx w := by exact fun _ _ => rfl) (hd : (S == ("__debug__" : Str)) = false := by decide)
    (hsw : swapsWith (.Subscript (.Name S p2) w p3) (some (.Name x p1)) p4.line X.env = pure false := by rfl) (hf : X.fn x = true ∨ X.env.scope.names.lookup x = some .local := by first | exact .inl rfl | exact .inr rfl | assumption)
    (hdb : (x == ("__debug__" : Str)) = false := by decide) (hcd : (x == ("__classdict__" : Str)) = false := by decide)
    (he : starEach (e :: es) X.env = (false, eval e X.env) :: starEach es X.env := by rfl) (hst : (backTo p6 (starEach es X.env)).any (·.1) = true := by rfl) :
    PSs X [.Assign [.Name x p1] (.Subscript (.Name S p2) w p3) p4, .Return (some (.Call (.Name x p5) (e :: es) [] p6)) p7] (upS X.K T (tJudgeP i tab tw ta)) := by
  refine PSs.weak (pss_cons (ps_set nd hi hx (pe_ix (ix_kd D) (pe_glob (v := .ref d) hg hm rfl hd) pw hs) hsw hf) (pss_one (ps_ret (pe_callXS hr hi hv pa hdb hcd he hst)))) fun D0 σ H q => ?_
  obtain ⟨F, η, D', R, h, k1, k2, k3, k4⟩ := q
  refine ⟨F, η, _, R, h, fun x1 η1 v1 H1 h1 e1 R1 r1 => ?_⟩
  obtain ⟨z, sp, rfl, hz, il, h2⟩ := h1
  obtain ⟨f, hn, hh⟩ := hJ z sp hz
  refine ⟨z, .ref f, .ref f, rfl, r1.str_, hn, rfl, ?_⟩
  refine ⟨f, upSp X.K T sp, hh, ?_, F, η1.set i (.va (.raw (.ref f))), _, R1.setv (by unfold Rep; rfl), h2 (.raw (.ref f)), fun args η2 vs H2 h3 e3 R3 r3 => ?_⟩
  · exact List.getElem?_set_self (by rw [R1.len]; exact il)
  · exact ⟨Oof F _ η2, args, _, R3.trO, R3.tb, r3, h3, fun r v H4 pr g tb rz => k4 r η2 _ v H4 pr (e1.trans (Ext.setv.trans (e3.trans g.ext))) (R3.gr g tb) rz⟩
end
end Z
set_option Elab.async false
set_option linter.all false
set_option maxRecDepth 100000
set_option maxHeartbeats 2000000
/-! list.count(True) of a list of bools; t < u, t > u of pairs of ints; x is True, x is False -/
namespace Z
open PySem PySem.Spec L2
open PyProof.Rows hiding St
def eqb (k : Bool) (v : Value) : Bool := match v with
  | .bool n => n == k
  | _ => false
theorem vals_bool : ∀ {bs : List Bool} {us : List Value}, Vals (bs.map V.bl) us → us = bs.map Value.bool
  | [], _, h => by cases h; rfl
  | b :: bs, _, h => by
    cases h with
    | cons a t =>
      rw [vals_bool t]
      have : _ = Value.bool b := a
      rw [this]; rfl
theorem eqb_count {k : Bool} : ∀ {bs : List Bool}, (bs.map Value.bool).countP (eqb k) = bs.count k
  | [] => rfl
  | b :: bs => by
    rw [List.map_cons, List.countP_cons, List.count_cons, eqb_count (k := k) (bs := bs)] <;> rfl
section
variable {X : Cx}
def rCntB (K : PySem.W.Frag) : V → List V → Hp → VK → Prop := fun x xs H Q => ∃ (p : Addr) (bs : List Bool) (k : Bool), x = .ref p ∧ xs = [.bl k] ∧ SqL K H p (bs.map V.bl) ∧ Q (.int (bs.count k : Nat)) H
theorem mt_lcountB : MtR X "list.count" (rCntB X.K) := by
  intro pins s σ H x xs v us Q I rx rxs h
  obtain ⟨p, bs, k, rfl, rfl, hs, q⟩ := h
  cases rx
  obtain ⟨u, rfl, ru⟩ := rxs.one
  obtain rfl : u = Value.bool k := ru
  obtain ⟨its, rv, ⟨⟨cls, dd, data, sl⟩, n, ho, hc, hdn, hd⟩, hlen⟩ := I.list hs
  simp only at hc hd
  subst hc hd
  have hi := vals_bool rv
  refine call_meets PySem.F.slot_list_count ⟨_, ho, rfl⟩ PySem.F.entry_list_count (PySem.F.args_list_count_2 _ _)
    (SeqAt.list_countAt p its.toArray n dd sl (.bool k) (eqb k)) ⟨ho, fun y hy => ?_, ?_⟩
  · rw [hi] at hy
    obtain ⟨b, _, rfl⟩ := List.mem_map.mp (show y ∈ bs.map Value.bool by simpa using hy)
    exact SeqAt.EqAt.bool_bool b k
  have ec : its.toArray.toList.countP (eqb k) = bs.count k := by
    rw [show its.toArray.toList = its from by simp, hi]; exact eqb_count
  refine ⟨.int (bs.count k : Nat), H, I.tok _, ⟨s.toks, ?_⟩, q⟩
  show Value.int ((its.toArray.toList.countP (eqb k) : Nat) : Int) s.toks = Value.int ((bs.count k : Nat) : Int) s.toks
  rw [ec]
theorem op_gtT2 (hu : X.A.units < cLine) : OpR X (compareOp .Gt) (fun x y H Q => ∃ (a b : Addr) (i j k l : Int), x = .ref a ∧ y = .ref b ∧ SqT X.K H a [V.int i, V.int j] ∧ SqT X.K H b [V.int k, V.int l] ∧ Q (.bl (decide (k < i ∨ (i = k ∧ l < j)))) H) := by
  intro pins s σ H x y v u Q I rx ry h
  obtain ⟨a, b, i, j, k, l, rfl, rfl, ha, hb, q⟩ := h
  cases rx
  cases ry
  obtain ⟨its, r1, p1, _⟩ := I.tuple ha
  obtain ⟨its2, r2, p2, _⟩ := I.tuple hb
  have i1 : IntsAre its [i, j] := Vals.ints r1
  have i2 : IntsAre its2 [k, l] := Vals.ints r2
  have e1 : its.toArray.size = 2 := by rw [List.size_toArray]; exact i1.length
  have e2 : its2.toArray.size = 2 := by rw [List.size_toArray]; exact i2.length
  have at1 : ∀ m (h1 : m < its.toArray.size), ∃ t, its.toArray[m] = .int ([i, j].getD m 0) t := fun m h1 => PyProof.Rows.IntsAre.int_at i1 _ _ (by simp at h1; simp [h1])
  have at2 : ∀ m (h1 : m < its2.toArray.size), ∃ t, its2.toArray[m] = .int ([k, l].getD m 0) t := fun m h1 => PyProof.Rows.IntsAre.int_at i2 _ _ (by simp at h1; simp [h1])
  have R := Ob.RcOp.tuples_gt (A := X.A) (s := s) (e := fun m => decide ([i, j].getD m 0 = [k, l].getD m 0)) (r := fun m => decide ([k, l].getD m 0 < [i, j].getD m 0)) p1 p2 hu (fun m h1 h2 => by
    obtain ⟨t, et⟩ := at1 m h1
    obtain ⟨t', et'⟩ := at2 m h2
    rw [et, et']
    have z : ([i, j].getD m 0 == [k, l].getD m 0) = decide ([i, j].getD m 0 = [k, l].getD m 0) := by
      by_cases q : [i, j].getD m 0 = [k, l].getD m 0
      · rw [decide_eq_true q]; exact beq_iff_eq.mpr q
      · rw [decide_eq_false q]; exact beq_eq_false_iff_ne.mpr q
    rw [← z]
    exact SeqAt.EqAt.int_int _ _ _ _) (fun m h1 h2 _ => by
    obtain ⟨t, et⟩ := at1 m h1
    obtain ⟨t', et'⟩ := at2 m h2
    rw [et, et']
    exact Ob.RcOp.gt_int _ _ _ _)
  rw [e1, e2] at R
  have ee : Ob.lexAt (fun m => decide ([i, j].getD m 0 = [k, l].getD m 0)) (fun m => decide ([k, l].getD m 0 < [i, j].getD m 0)) (decide (2 > 2)) 0 (min 2 2) = decide (k < i ∨ (i = k ∧ l < j)) := by
    show (if decide (i = k) = true then (if decide (j = l) = true then false else decide (l < j)) else decide (k < i)) = _
    by_cases c : i = k
    · rw [decide_eq_true c, if_pos rfl]
      by_cases c2 : j = l
      · rw [decide_eq_true c2, if_pos rfl]
        symm; rw [decide_eq_false_iff_not]; omega
      · rw [decide_eq_false c2, if_neg Bool.false_ne_true]
        rw [Bool.eq_iff_iff, decide_eq_true_iff, decide_eq_true_iff]; omega
    · rw [decide_eq_false c, if_neg Bool.false_ne_true]
      rw [Bool.eq_iff_iff, decide_eq_true_iff, decide_eq_true_iff]; omega
  rw [ee] at R
  exact R X.prog X.w X.xe (EP X pins σ Q) ⟨.bl _, H, I, rfl, q⟩
def rGtT2 : R2p := fun x y P => ∃ i j k l, x = .tup [.int i, .int j] ∧ y = .tup [.int k, .int l] ∧ P (.bl (decide (k < i ∨ (i = k ∧ l < j))))
def rLtT2 : R2p := fun x y P => ∃ i j k l, x = .tup [.int i, .int j] ∧ y = .tup [.int k, .int l] ∧ P (.bl (decide (i < k ∨ (i = k ∧ j < l))))
theorem zo_gtT2 (hu : X.A.units < cLine) : OpR X (compareOp .Gt) (r2 X.K rGtT2) := by
  refine OpR.weak (op_gtT2 hu) fun x y H Q h => ?_
  obtain ⟨O, px, py, P, tr, hx, hy, ⟨i, j, k1, l, rfl, rfl, h⟩, k⟩ := h
  obtain ⟨a, vs, rfl, h1, q1⟩ := hx.tup_
  obtain ⟨b, us, rfl, h2, q2⟩ := hy.tup_
  have e1 := reps_ints (ns := [i, j]) q1
  have e2 := reps_ints (ns := [k1, l]) q2
  subst e1 e2
  exact ⟨a, b, i, j, k1, l, rfl, rfl, h1.sq, h2.sq, k.bl h⟩
theorem zo_ltT2 (hu : X.A.units < cLine) : OpR X (compareOp .Lt) (r2 X.K rLtT2) := by
  refine OpR.weak (op_ltT hu) fun x y H Q h => ?_
  obtain ⟨O, px, py, P, tr, hx, hy, ⟨i, j, k1, l, rfl, rfl, h⟩, k⟩ := h
  obtain ⟨a, vs, rfl, h1, q1⟩ := hx.tup_
  obtain ⟨b, us, rfl, h2, q2⟩ := hy.tup_
  have e1 := reps_ints (ns := [i, j]) q1
  have e2 := reps_ints (ns := [k1, l]) q2
  subst e1 e2
  refine ⟨a, b, [i, j], [k1, l], rfl, rfl, h1.sq, h2.sq, k.bl ?_⟩
  have e : HT.lexLt [i, j] [k1, l] = decide (i < k1 ∨ (i = k1 ∧ j < l)) := by
    rw [HT.lexLt_cons, HT.lexLt_cons, HT.lexLt_nil_nil]
    by_cases c : i = k1
    · rw [if_pos c]
      by_cases c2 : j = l
      · rw [if_pos c2]; symm; rw [decide_eq_false_iff_not]; omega
      · rw [if_neg c2, Bool.eq_iff_iff, decide_eq_true_iff, decide_eq_true_iff]; omega
    · rw [if_neg c, Bool.eq_iff_iff, decide_eq_true_iff, decide_eq_true_iff]; omega
  rw [e]; exact h
end
section
variable {X : Cx} {T : List (Addr × Str)} {e : Expr} {to ti : TEp}
def tCntBP (to ti : TEp) : TEp := fun η P => to η fun x η1 => (∃ xs, x = .lst xs) ∧ ti η1 fun y η2 => ∃ (bs : List Bool) (k : Bool), x = .lst (bs.map .bl) ∧ y = .bl k ∧ P (.int ((bs.count k : Nat) : Int)) η2
theorem reps_bls {K : PySem.W.Frag} {O : Addr → Prop} {H : Hp} : ∀ {bs : List Bool} {vs : List V}, Reps K O H (bs.map .bl) vs → vs = bs.map V.bl
  | [], _, h => h.inv0
  | n :: ns, _, h => by
    obtain ⟨v, us, rfl, r, t⟩ := h.inv
    rw [r.bl_, reps_bls t]; rfl
theorem z_cntB {K0 : PySem.W.Frag} (hK : X.K = K0) (pf : PE X e (tBM K0 "list" (rCntB K0) (up K0 T to) (tCons (up K0 T ti) tNil))) : PE X e (up X.K T (tCntBP to ti)) := by
  subst hK
  refine PE.weak pf fun σ H Q q => ?_
  obtain ⟨F, η, P, R, h, k⟩ := q
  refine ⟨F, η, _, R, h, fun x η1 v H1 h1 e1 R1 r1 => ?_⟩
  obtain ⟨⟨xs, rfl⟩, h1⟩ := h1
  obtain ⟨a, vs, rfl, n, q, rr⟩ := id r1.lst_
  refine ⟨.inl ⟨rfl, vs, SqL.of q⟩, F, η1, _, R1, h1, fun y η2 w H2 h2 e2 R2 r2 => ?_⟩
  obtain ⟨bs, i, e, rfl, h2⟩ := h2
  have r3 := r1.car e2.car
  rw [e] at r3
  obtain ⟨a', vs', e3, n', q', rr'⟩ := r3.lst_
  cases e3
  have e4 := reps_bls rr'
  subst e4
  exact ⟨a, bs, i, rfl, by rw [r2.bl_], SqL.of q', k _ η2 _ H2 h2 (e1.trans e2) R2 rep_int⟩
theorem w_cntB {to ti : TEp} {η : EP'} {P : PV → EP' → Prop} (h : to η fun x η1 => (∃ xs, x = .lst xs) ∧ ti η1 fun y η2 => ∃ (bs : List Bool) (k : Bool), x = .lst (bs.map .bl) ∧ y = .bl k ∧ P (.int ((bs.count k : Nat) : Int)) η2) : tCntBP to ti η P := h
end
def rNeD0 : R2p := fun x y P => match x, y with
  | .dic kvs, .dic [] => P (.bl (!kvs.isEmpty))
  | _, _ => False
theorem q_neD0 {kvs : List (Key × PV)} {P : PV → Prop} (h : P (.bl (!kvs.isEmpty))) : rNeD0 (.dic kvs) (.dic []) P := h
section
variable {X : Cx}
theorem op_neD0 (hu : X.A.units < cLine) : OpR X (compareOp .NotEq) (fun x y H Q => ∃ a b ks, x = .ref a ∧ y = .ref b ∧ H a = some (.dK ks) ∧ H b = some (.dK []) ∧ Q (.bl (!ks.isEmpty)) H) := by
  intro pins s σ H x y v u Q I rx ry h
  obtain ⟨a, b, ks, rfl, rfl, ea, eb, q⟩ := h
  obtain rfl : v = Value.ref a := rx
  obtain rfl : u = Value.ref b := ry
  obtain ⟨_, ya, va, ra, da⟩ := (show ObjOk X.prog X.w H s.heap a (.dK ks) from I.hok a _ ea)
  obtain ⟨_, yb, vb, rb, db⟩ := (show ObjOk X.prog X.w H s.heap b (.dK []) from I.hok b _ eb)
  have l1 := ra.length
  have l2 := rb.length
  by_cases h0 : ks = []
  · subst h0
    have hl : va.length = vb.length := by rw [← l1, ← l2]
    exact PySem.W.keq_ne (knd := mixKind X.prog X.w) (r := true) ya yb da db hu (fun _ => hits_all rb ra fun p hp => by cases hp) (fin_bl I q (by simp [hl]))
  · have hne : va.length ≠ vb.length := fun z => h0 (List.length_eq_zero_iff.mp (by rw [l1, z, ← l2]; rfl))
    refine PySem.W.keq_ne (knd := mixKind X.prog X.w) (r := true) ya yb da db hu (fun z => absurd z (by simpa using hne)) (fin_bl I q ?_)
    cases ks with
    | nil => exact absurd rfl h0
    | cons k ks => simp [hne]
theorem zo_neD0 (hu : X.A.units < cLine) : OpR X (compareOp .NotEq) (r2 X.K rNeD0) := by
  refine OpR.weak (op_neD0 hu) fun x y H Q h => ?_
  obtain ⟨O, px, py, P, tr, hx, hy, h, k⟩ := h
  unfold rNeD0 at h
  split at h
  · rename_i kvs
    obtain ⟨a, ws, rfl, n, q, rr⟩ := hx.dic_
    obtain ⟨b, us, rfl, n2, q2, rr2⟩ := hy.dic_
    have e2 : us = [] := List.length_eq_zero_iff.mp (by rw [rr2.len]; rfl)
    subst e2
    refine ⟨a, b, ws, rfl, rfl, q, q2, k.bl ?_⟩
    have : ws.isEmpty = kvs.isEmpty := by
      have := rr.len
      cases ws <;> cases kvs <;> simp at this ⊢
    rw [this]; exact h
  · cases h
end
end Z
set_option Elab.async false
set_option linter.all false
set_option maxRecDepth 100000
namespace Z
open PySem PySem.Spec L2
open PyProof.Rows hiding St
/-! ### the checker of claims -/
abbrev Leg := Int × Int × Int
def legP (l : Leg) : PV := .tup [.int l.1, .int l.2.1, .int l.2.2]
def prP (p : Int × Int) : PV := .tup [.int p.1, .int p.2]
def minW (e : Int) (xs : List Int) : Int := xs.foldl (fun a b => if b < a then b else a) e
def freeW (sd : List Seat) (s x y : Int) : Prop := ∀ z ∈ sd, z.2 = s → z.1.2.2 ≤ x ∨ y ≤ z.1.2.1
instance decFree (sd : List Seat) (s x y : Int) : Decidable (freeW sd s x y) := by unfold freeW; infer_instance
def CovW (sd : List Seat) (n e : Int) : Nat → Int → Prop
  | 0, x => x = e
  | m + 1, x => ∃ s y, 1 ≤ s ∧ s ≤ n ∧ x < y ∧ y ≤ e ∧ freeW sd s x y ∧ CovW sd n e m y
def wholeB (l : Int) : PV → Bool
  | .int i => decide (l ≤ i)
  | _ => false
def tupB (n : Int) : PV → Bool
  | .tup xs => decide ((xs.length : Int) = n)
  | _ => false
def stnB (a b : Int) : Bool := decide (0 ≤ a) && (decide (0 ≤ b) && decide (a < b))
def placeO (n : Int) (rs : List Trip) (p : Pair) : Option Nat := if 1 ≤ p.2 ∧ p.2 ≤ n then rs.findIdx? fun r => decide (r.1 = p.1) else none
def optP : Option Nat → PV
  | none => .non
  | some i => .int (i : Int)
def wornP (sd : List Seat) : PV := .lst ((sd.map (·.2)).map .int)
def wayB (sd : List Seat) (n : Int) : Option Int → Int → List Leg → Bool
  | _, _, [] => true
  | b, x, l :: ls => ((decide (1 ≤ l.1) && decide (l.1 ≤ n)) && stnB l.2.1 l.2.2) && (decide (l.2.1 = x) && (!decide (b = some l.1) && decide (freeW sd l.1 l.2.1 l.2.2))) && wayB sd n (some l.1) l.2.2 ls
def lastO (e : Int) (ls : List Leg) : Bool := match ls.getLast? with
  | some l => decide (l.2.2 = e)
  | none => false
def blkB (sd : List Seat) (n x e : Int) (p : Int × Int) : Bool := stnB p.1 p.2 && (decide (x ≤ p.1) && decide (p.2 ≤ e)) && !((upto n).any fun s => decide (freeW sd s p.1 p.2))
def apart1 (p q : Int × Int) : Bool := decide (p.1 < q.1 ∨ (p.1 = q.1 ∧ p.2 < q.2)) && decide (p.2 ≤ q.1 + 1)
def apartB (ps : List (Int × Int)) : Bool := (ps.zip (ps.drop 1)).all fun w => apart1 w.1 w.2
def chgB (sd : List Seat) (n x e c : Int) (ls : List Leg) (ps : List (Int × Int)) : Bool :=
  (decide ((ls.length : Int) = c + 1) && decide ((ps.length : Int) = c)) && ((wayB sd n none x ls && lastO e ls) && (ps.all (blkB sd n x e) && apartB ps))
def fullB (n x e p : Int) (rs : List Trip) : Bool := decide (x ≤ p) && (decide (p < e) && decide (loadN rs p = n))
def FewW (sd : List Seat) (n x e : Int) (v : PV) : Prop := (v = .non ∧ ∀ m, ¬ CovW sd n e m x) ∨ ∃ c : Nat, v = .int (c : Int) ∧ CovW sd n e (c + 1) x ∧ ∀ m, CovW sd n e m x → c + 1 ≤ m
def sp_is_whole : PrP := fun K C args P => ∃ x l, args = [x, .int l] ∧ (tyN x).isSome = true ∧ P (.bl (wholeB l x))
def sp_is_tuple_of : PrP := fun K C args P => ∃ x n, args = [x, .int n] ∧ (tyN x).isSome = true ∧ P (.bl (tupB n x))
def sp_are_stations : PrP := fun K C args P => ∃ a b, args = [.int a, .int b] ∧ P (.bl (stnB a b))
def sp_is_booked : PrP := fun K C args P => ∃ r : Trip, args = [rowP r] ∧ isNm (.str r.1) = true ∧ 0 ≤ r.2.1 ∧ r.2.1 < r.2.2 ∧ P (.bl true)
def sp_are_of_a_line : PrP := fun K C args P => ∃ n rs, args = [.int n, rowsP rs] ∧ 1 ≤ n ∧ n ≤ 20 ∧ Rw rs ∧ P (.bl true)
def sp_is_one_of : PrP := fun K C args P => ∃ i n, args = [.int i, .int n] ∧ P (.bl (decide (1 ≤ i) && decide (i ≤ n)))
def sp_place_of : PrP := fun K C args P => ∃ n rs p, args = [.int n, rowsP rs, pairS p] ∧ P (optP (placeO n rs p))
def sp_seats_given : PrP := fun K C args P => ∃ n rs x, args = [.int n, rowsP rs, x] ∧ 1 ≤ n ∧ n ≤ 20 ∧ Rw rs ∧ (tyN x).isSome = true ∧ ((∃ ps, x = planV ps) ∨ ∀ xs, x ≠ .tup xs) ∧
  (∀ sd, SdOk n sd → sd.map (·.1) = rs → x = planV (sd.map seatPair) → P (wornP sd)) ∧ ((∀ sd, SdOk n sd → sd.map (·.1) = rs → x ≠ planV (sd.map seatPair)) → P .non)
def sp_taken_before : PrP := fun K C args P => ∃ (sd : List Seat) (r : Trip) (rest : List Trip) (s : Int), args = [rowsP (sd.map (·.1) ++ r :: rest), wornP sd, .int (sd.length : Int), .int s] ∧ sd.length ≤ 24 ∧ P (.bl (sd.any fun z => decide (z.2 = s) && meetB z.1 r))
def sp_overlap : PrP := fun K C args P => ∃ a b, args = [rowP a, rowP b] ∧ P (.bl (meetB a b))
def sp_many_on : PrP := fun K C args P => ∃ rs st, args = [rowsP rs, .int st] ∧ rs.length ≤ 24 ∧ P (.int (loadN rs st))
def sp_is_unoccupied : PrP := fun K C args P => ∃ sd s a b, args = [rowsP (sd.map (·.1)), wornP sd, .int s, .int a, .int b] ∧ sd.length ≤ 24 ∧ P (.bl (decide (freeW sd s a b)))
def sp_is_way : PrP := fun K C args P => ∃ n sd x ls, args = [.int n, rowsP (sd.map (·.1)), wornP sd, .int x, .tup (ls.map legP)] ∧ sd.length ≤ 24 ∧ ls.length ≤ 1000 ∧ P (.bl (wayB sd n none x ls))
def sp_is_blocked : PrP := fun K C args P => ∃ n sd x e p, args = [.int n, rowsP (sd.map (·.1)), wornP sd, .int x, .int e, prP p] ∧ sd.length ≤ 24 ∧ 1 ≤ n ∧ n ≤ 20 ∧ P (.bl (blkB sd n x e p))
def sp_changes_holds : PrP := fun K C args P => ∃ n sd x e c ls ps, args = [.tup [.tup (ls.map legP), .tup (ps.map prP)], .int n, rowsP (sd.map (·.1)), planS sd, .int x, .int e, .int c] ∧ SdOk n sd ∧ 0 ≤ x ∧ x < e ∧ 0 ≤ c ∧ ls.length ≤ 1000 ∧ ps.length ≤ 1000 ∧ P (.bl (chgB sd n x e c ls ps))
def NsArgs (n : Int) (rs : List Trip) (pl : PV) : Prop := (∃ sd, pl = planS sd ∧ SdOk n sd ∧ sd.map (·.1) = rs) ∨ (pl = .tup [] ∧ rs ≠ [])
def nsB (n : Int) (rs : List Trip) (x e p : Int) : PV → Bool
  | .pln _ => fullB n x e p rs
  | _ => false
def sp_no_seat_holds : PrP := fun K C args P => ∃ n rs pl x e p, args = [.int p, .int n, rowsP rs, pl, .int x, .int e] ∧ 1 ≤ n ∧ n ≤ 20 ∧ Rw rs ∧ NsArgs n rs pl ∧ 0 ≤ x ∧ x < e ∧ P (.bl (nsB n rs x e p pl))
def sp_accepts : PrP := fun K C args P => (∃ n rs pl x e p, args = [.tup [.str "no seat", .int n, rowsP rs, pl, .int x, .int e], .int p] ∧ 1 ≤ n ∧ n ≤ 20 ∧ Rw rs ∧ NsArgs n rs pl ∧ 0 ≤ x ∧ x < e ∧ P (.bl (nsB n rs x e p pl))) ∨
  ∃ n sd x e c ls ps, args = [.tup [.str "changes", .int n, rowsP (sd.map (·.1)), planS sd, .int x, .int e, .int c], .tup [.tup (ls.map legP), .tup (ps.map prP)]] ∧ SdOk n sd ∧ 0 ≤ x ∧ x < e ∧ 0 ≤ c ∧ ls.length ≤ 1000 ∧ ps.length ≤ 1000 ∧ P (.bl (chgB sd n x e c ls ps))
def sp_law_fewest : PrP := fun K C args P => ∃ n sd x e, args = [.int n, rowsP (sd.map (·.1)), planS sd, .int x, .int e] ∧ SdOk n sd ∧ 0 ≤ x ∧ x < e ∧ e ≤ 20 ∧ ∀ v, FewW sd n x e v → P v
def rowsL (rows : List (List Leg)) : PV := .lst (rows.map fun ls => .tup (ls.map legP))
def rowsQ (rows : List (List (Int × Int))) : PV := .lst (rows.map fun ps => .tup (ps.map prP))
def sp_law_parts : PrP := fun K C args P => ∃ n x e, args = [.int n, .int x, .int e] ∧ 1 ≤ n ∧ n ≤ 3 ∧ 0 ≤ x ∧ x < e ∧ e ≤ x + 4 ∧ e ≤ 20 ∧ ∀ rows : List (List Leg), rows.length ≤ 1000 → (∀ ls ∈ rows, ls.length ≤ 3) →
  (∀ s, 1 ≤ s → s ≤ n → [(s, x, e)] ∈ rows) → (∀ m s t, x < m → m < e → 1 ≤ s → s ≤ n → 1 ≤ t → t ≤ n → [(s, x, m), (t, m, e)] ∈ rows) → P (rowsL rows)
def sp_law_pairs : PrP := fun K C args P => ∃ x e, args = [.int x, .int e] ∧ 0 ≤ x ∧ x < e ∧ e ≤ x + 4 ∧ e ≤ 20 ∧ ∀ rows : List (List (Int × Int)), rows.length ≤ 1000 → (∀ ps ∈ rows, ps.length ≤ 2) → [] ∈ rows → [(x, e)] ∈ rows → P (rowsQ rows)
def sp_law_right : PrR := fun K C o args P => Pool o ∧ args = [] ∧ ∀ o', Pool o' → P (.bl true) o'
def sp_law : PrP := fun K C args P => ∃ ns : List Int, args = [.scr ns] ∧ ns.length ≤ 63 ∧ P (.bl true)
def ts_is_whole (K : PySem.W.Frag) (CLine : Addr) : TSp := tRetP (tAndVP (tCBP (rIsI K) (tConsP (tVarP 0) (tConsP (tConP (.raw (.ty "int"))) (tNilP)))) (tAndVP (tNotVP (tCBP (rIsI K) (tConsP (tVarP 0) (tConsP (tConP (.raw (.ty "bool"))) (tNilP))))) (tOpP rGe (tVarP 0) (tVarP 1))))
def ts_is_tuple_of (K : PySem.W.Frag) (CLine : Addr) : TSp := tRetP (tAndVP (tCBP (rIsI K) (tConsP (tVarP 0) (tConsP (tConP (.raw (.ty "tuple"))) (tNilP)))) (tOpP (rEqI false) (tCBP rLen (tConsP (tVarP 0) (tNilP))) (tVarP 1)))
def ts_are_stations (K : PySem.W.Frag) (CLine : Addr) : TSp := tRetP (tAndVP (tCallP (sp_is_whole K CLine) [] (tConsP (tVarP 0) (tConsP (tConP (.int 0)) (tNilP)))) (tAndVP (tCallP (sp_is_whole K CLine) [] (tConsP (tVarP 1) (tConsP (tConP (.int 0)) (tNilP)))) (tOpP rLt (tVarP 0) (tVarP 1))))
def ts_is_booked (K : PySem.W.Frag) (CLine : Addr) : TSp := tSeqP (tIfSP (tOrP (tNotP (tBlP (tCallP (sp_is_tuple_of K CLine) [] (tConsP (tVarP 0) (tConsP (tConP (.int 3)) (tNilP)))))) (tOrP (tNotP (tBlP (tCBP (rIsI K) (tConsP (tOpP rIxP (tVarP 0) (tConP (.int 0))) (tConsP (tConP (.raw (.ty "str"))) (tNilP)))))) (tNotP (tBlP (tChainP rLe rLe (tConP (.int 1)) (tCBP rLen (tConsP (tOpP rIxP (tVarP 0) (tConP (.int 0))) (tNilP))) (tConP (.int 8))))))) (tRetP (tConP (.bl false))) (tNextP)) (tRetP (tAndVP (tCBP rAllP (tConsP (tValP (tLcP (iStrP (tOpP rIxP (tVarP 0) (tConP (.int 0)))) (gNameP 1) (tYesP) (tOpP (rInS false) (tVarP 1) (tConP (.str ("abcdefghijklmnopqrstuvwxyz" : Str)))) [1])) (tNilP))) (tCallP (sp_are_stations K CLine) [] (tConsP (tOpP rIxP (tVarP 0) (tConP (.int 1))) (tConsP (tOpP rIxP (tVarP 0) (tConP (.int 2))) (tNilP))))))
def ts_are_of_a_line (K : PySem.W.Frag) (CLine : Addr) : TSp := tSeqP (tIfSP (tOrP (tNotP (tBlP (tCallP (sp_is_whole K CLine) [] (tConsP (tVarP 0) (tConsP (tConP (.int 1)) (tNilP)))))) (tBlP (tOpP rGt (tVarP 0) (tConP (.int 20))))) (tRetP (tConP (.bl false))) (tNextP)) (tSeqP (tIfSP (tOrP (tNotP (tBlP (tCBP (rIsI K) (tConsP (tVarP 1) (tConsP (tConP (.raw (.ty "tuple"))) (tNilP)))))) (tOrP (tBlP (tOpP rGt (tCBP rLen (tConsP (tVarP 1) (tNilP))) (tConP (.int 24)))) (tNotP (tBlP (tCBP rAllP (tConsP (tValP (tLcP (iTupP (tVarP 1)) (gNameP 2) (tYesP) (tCallP (sp_is_booked K CLine) [] (tConsP (tVarP 2) (tNilP))) [2])) (tNilP))))))) (tRetP (tConP (.bl false))) (tNextP)) (tRetP (tCBP rAllP (tConsP (tValP (tLcP (iZipP (tConsP (tVarP 1) (tConsP (tSliceAP (tVarP 1) (tPartP (tConP (.int 1))) (tNoPartP)) (tNilP)))) (gTupP 2 (gConsP (gNameP 3) (gConsP (gNameP 4) (gNilP)))) (tYesP) (tOpP rLt (tOpP rIxP (tVarP 3) (tConP (.int 0))) (tOpP rIxP (tVarP 4) (tConP (.int 0)))) [3, 4])) (tNilP)))))
def ts_is_one_of (K : PySem.W.Frag) (CLine : Addr) : TSp := tRetP (tAndVP (tCallP (sp_is_whole K CLine) [] (tConsP (tVarP 0) (tConsP (tConP (.int 1)) (tNilP)))) (tOpP rLe (tVarP 0) (tVarP 1)))
def ts_place_of (K : PySem.W.Frag) (CLine : Addr) : TSp := tSeqP (tIfSP (tOrP (tNotP (tBlP (tCallP (sp_is_tuple_of K CLine) [] (tConsP (tVarP 2) (tConsP (tConP (.int 2)) (tNilP)))))) (tOrP (tNotP (tBlP (tCBP (rIsI K) (tConsP (tOpP rIxP (tVarP 2) (tConP (.int 0))) (tConsP (tConP (.raw (.ty "str"))) (tNilP)))))) (tNotP (tBlP (tCallP (sp_is_one_of K CLine) [] (tConsP (tOpP rIxP (tVarP 2) (tConP (.int 1))) (tConsP (tVarP 0) (tNilP)))))))) (tRetP (tConP .non)) (tNextP)) (tSeqP (tForP (iEnumP (tVarP 1)) (gTupP 2 (gConsP (gNameP 3) (gConsP (gNameP 4) (gNilP)))) (tIfSP (tBlP (tOpP (rEqI false) (tOpP rIxP (tVarP 4) (tConP (.int 0))) (tOpP rIxP (tVarP 2) (tConP (.int 0))))) (tRetP (tVarP 3)) (tNextP))) (tRetP (tConP .non)))
def ts_seats_given (K : PySem.W.Frag) (CLine : Addr) : TSp := tSeqP (tIfSP (tNotP (tBlP (tCallP (sp_is_tuple_of K CLine) [] (tConsP (tVarKP 2) (tConsP (tCBP rLen (tConsP (tVarP 1) (tNilP))) (tNilP)))))) (tRetP (tConP .non)) (tNextP)) (tSeqP (tSetFP 3 (tLstFP (tNilP))) (tSeqP (tForP (iEnumP (tVarKP 2)) (gTupP 2 (gConsP (gNameP 4) (gConsP (gNameP 5) (gNilP)))) (tSeqP (tIfSP (tOrP (tBlP (tOpP (rEqP true) (tCallP (sp_place_of K CLine) [] (tConsP (tVarP 0) (tConsP (tVarP 1) (tConsP (tVarP 5) (tNilP))))) (tVarP 4))) (tBlP (tCallBP (sp_taken_before K CLine) (tConsBv (tVarP 1) (tConsBb 3 (tConsBv (tVarP 4) (tConsBv (tOpP rIxP (tVarP 5) (tConP (.int 1))) (tNilB)))))))) (tRetP (tConP .non)) (tNextP)) (tAppP 3 (tOpP rIxP (tVarP 5) (tConP (.int 1)))))) (tRetP (tVarP 3))))
def ts_taken_before (K : PySem.W.Frag) (CLine : Addr) : TSp := tRetP (tCBP rAnyP (tConsP (tValP (tLcP (iRng1P (tVarP 2)) (gNameP 4) (tYesP) (tAndVP (tOpP (rEqI false) (tOpP rIxP (tVarP 1) (tVarP 4)) (tVarP 3)) (tCallP (sp_overlap K CLine) [] (tConsP (tOpP rIxP (tVarP 0) (tVarP 4)) (tConsP (tOpP rIxP (tVarP 0) (tVarP 2)) (tNilP))))) [4])) (tNilP)))
def ts_overlap (K : PySem.W.Frag) (CLine : Addr) : TSp := tRetP (tAndVP (tOpP rLt (tOpP rIxP (tVarP 0) (tConP (.int 1))) (tOpP rIxP (tVarP 1) (tConP (.int 2)))) (tOpP rLt (tOpP rIxP (tVarP 1) (tConP (.int 1))) (tOpP rIxP (tVarP 0) (tConP (.int 2)))))
def ts_many_on (K : PySem.W.Frag) (CLine : Addr) : TSp := tRetP (tCBP rLen (tConsP (tValP (tLcP (iTupP (tVarP 0)) (gNameP 2) (tBlP (tChainP rLe rLt (tOpP rIxP (tVarP 2) (tConP (.int 1))) (tVarP 1) (tOpP rIxP (tVarP 2) (tConP (.int 2))))) (tVarP 2) [2])) (tNilP)))
def ts_is_unoccupied (K : PySem.W.Frag) (CLine : Addr) : TSp := tSeqP (tSetP 5 (tTupP (tConsP (tConP (.str ("" : Str))) (tConsP (tVarP 3) (tConsP (tVarP 4) (tNilP)))))) (tRetP (tNotVP (tCBP rAnyP (tConsP (tValP (tLcP (iZipMP (tConsP (tVarP 0) (tConsP (tVarP 1) (tNilP)))) (gTupP 2 (gConsP (gNameP 6) (gConsP (gNameP 7) (gNilP)))) (tYesP) (tAndVP (tOpP (rEqI false) (tVarP 7) (tVarP 2)) (tCallP (sp_overlap K CLine) [] (tConsP (tVarP 6) (tConsP (tVarP 5) (tNilP))))) [6, 7])) (tNilP)))))
def ts_is_way (K : PySem.W.Frag) (CLine : Addr) : TSp := tSeqP (tSetP 5 (tVarP 3)) (tSeqP (tSetP 6 (tConP .non)) (tSeqP (tForP (iTupP (tVarP 4)) (gNameP 7) (tSeqP (tIfSP (tOrP (tNotP (tBlP (tCallP (sp_is_tuple_of K CLine) [] (tConsP (tVarP 7) (tConsP (tConP (.int 3)) (tNilP)))))) (tOrP (tNotP (tBlP (tCallP (sp_is_one_of K CLine) [] (tConsP (tOpP rIxP (tVarP 7) (tConP (.int 0))) (tConsP (tVarP 0) (tNilP)))))) (tNotP (tBlP (tCallP (sp_are_stations K CLine) [] (tConsP (tOpP rIxP (tVarP 7) (tConP (.int 1))) (tConsP (tOpP rIxP (tVarP 7) (tConP (.int 2))) (tNilP)))))))) (tRetP (tConP (.bl false))) (tNextP)) (tSeqP (tAsgP (tVarP 7) (gTupP 3 (gConsP (gNameP 8) (gConsP (gNameP 9) (gConsP (gNameP 10) (gNilP)))))) (tSeqP (tIfSP (tOrP (tBlP (tOpP (rEqI true) (tVarP 9) (tVarP 5))) (tOrP (tBlP (tOpP (rEqP false) (tVarP 8) (tVarP 6))) (tNotP (tBlP (tCallP (sp_is_unoccupied K CLine) [] (tConsP (tVarP 1) (tConsP (tVarP 2) (tConsP (tVarP 8) (tConsP (tVarP 9) (tConsP (tVarP 10) (tNilP))))))))))) (tRetP (tConP (.bl false))) (tNextP)) (tSeqP (tSetP 5 (tVarP 10)) (tSetP 6 (tVarP 8))))))) (tRetP (tConP (.bl true)))))
def ts_is_blocked (K : PySem.W.Frag) (CLine : Addr) : TSp := tSeqP (tIfSP (tOrP (tNotP (tBlP (tCallP (sp_is_tuple_of K CLine) [] (tConsP (tVarP 5) (tConsP (tConP (.int 2)) (tNilP)))))) (tOrP (tNotP (tBlP (tCallP (sp_are_stations K CLine) [] (tConsP (tOpP rIxP (tVarP 5) (tConP (.int 0))) (tConsP (tOpP rIxP (tVarP 5) (tConP (.int 1))) (tNilP)))))) (tOrP (tBlP (tOpP rLt (tOpP rIxP (tVarP 5) (tConP (.int 0))) (tVarP 3))) (tBlP (tOpP rGt (tOpP rIxP (tVarP 5) (tConP (.int 1))) (tVarP 4)))))) (tRetP (tConP (.bl false))) (tNextP)) (tRetP (tNotVP (tCBP rAnyP (tConsP (tValP (tLcP (iRng2P (tConP (.int 1)) (tOpP rAdd (tVarP 0) (tConP (.int 1)))) (gNameP 6) (tYesP) (tCallP (sp_is_unoccupied K CLine) [] (tConsP (tVarP 1) (tConsP (tVarP 2) (tConsP (tVarP 6) (tConsP (tOpP rIxP (tVarP 5) (tConP (.int 0))) (tConsP (tOpP rIxP (tVarP 5) (tConP (.int 1))) (tNilP))))))) [6])) (tNilP)))))
def ts_changes_holds (K : PySem.W.Frag) (CLine : Addr) : TSp := tSeqP (tSetP 7 (tCallP (sp_seats_given K CLine) [] (tConsP (tVarP 1) (tConsP (tVarP 2) (tConsP (tVarKP 3) (tNilP)))))) (tSeqP (tIfSP (tOrP (tBlP (tOpP (rIsN false) (tVarP 7) (tConP .non))) (tOrP (tNotP (tBlP (tCallP (sp_are_stations K CLine) [] (tConsP (tVarP 4) (tConsP (tVarP 5) (tNilP)))))) (tOrP (tNotP (tBlP (tCallP (sp_is_whole K CLine) [] (tConsP (tVarP 6) (tConsP (tConP (.int 0)) (tNilP)))))) (tNotP (tBlP (tCallP (sp_is_tuple_of K CLine) [] (tConsP (tVarP 0) (tConsP (tConP (.int 2)) (tNilP))))))))) (tRetP (tConP (.bl false))) (tNextP)) (tSeqP (tAsgP (tVarP 0) (gTupP 2 (gConsP (gNameP 8) (gConsP (gNameP 9) (gNilP))))) (tSeqP (tIfSP (tOrP (tNotP (tBlP (tCallP (sp_is_tuple_of K CLine) [] (tConsP (tVarP 8) (tConsP (tOpP rAdd (tVarP 6) (tConP (.int 1))) (tNilP)))))) (tNotP (tBlP (tCallP (sp_is_tuple_of K CLine) [] (tConsP (tVarP 9) (tConsP (tVarP 6) (tNilP))))))) (tRetP (tConP (.bl false))) (tNextP)) (tSeqP (tIfSP (tOrP (tNotP (tBlP (tCallP (sp_is_way K CLine) [] (tConsP (tVarP 1) (tConsP (tVarP 2) (tConsP (tVarP 7) (tConsP (tVarP 4) (tConsP (tVarP 8) (tNilP))))))))) (tBlP (tOpP (rEqI true) (tOpP rIxP (tOpP rIxP (tVarP 8) (tNegP (tConP (.int 1)))) (tConP (.int 2))) (tVarP 5)))) (tRetP (tConP (.bl false))) (tNextP)) (tSeqP (tIfSP (tNotP (tBlP (tCBP rAllP (tConsP (tValP (tLcP (iTupP (tVarP 9)) (gNameP 10) (tYesP) (tCallP (sp_is_blocked K CLine) [] (tConsP (tVarP 1) (tConsP (tVarP 2) (tConsP (tVarP 7) (tConsP (tVarP 4) (tConsP (tVarP 5) (tConsP (tVarP 10) (tNilP)))))))) [10])) (tNilP))))) (tRetP (tConP (.bl false))) (tNextP)) (tRetP (tCBP rAllP (tConsP (tValP (tLcP (iZipP (tConsP (tVarP 9) (tConsP (tSliceAP (tVarP 9) (tPartP (tConP (.int 1))) (tNoPartP)) (tNilP)))) (gTupP 2 (gConsP (gNameP 11) (gConsP (gNameP 12) (gNilP)))) (tYesP) (tAndVP (tOpP rLtT2 (tVarP 11) (tVarP 12)) (tOpP rLe (tOpP rIxP (tVarP 11) (tConP (.int 1))) (tOpP rAdd (tOpP rIxP (tVarP 12) (tConP (.int 0))) (tConP (.int 1))))) [11, 12])) (tNilP)))))))))
def ts_no_seat_holds (K : PySem.W.Frag) (CLine : Addr) : TSp := tSeqP (tIfSP (tOrP (tBlP (tOpP (rIsN false) (tCallP (sp_seats_given K CLine) [] (tConsP (tVarP 1) (tConsP (tVarP 2) (tConsP (tVarKP 3) (tNilP))))) (tConP .non))) (tOrP (tNotP (tBlP (tCallP (sp_are_stations K CLine) [] (tConsP (tVarP 4) (tConsP (tVarP 5) (tNilP)))))) (tNotP (tBlP (tCallP (sp_is_whole K CLine) [] (tConsP (tVarP 0) (tConsP (tVarP 4) (tNilP)))))))) (tRetP (tConP (.bl false))) (tNextP)) (tRetP (tAndVP (tOpP rLt (tVarP 0) (tVarP 5)) (tOpP (rEqI false) (tCallP (sp_many_on K CLine) [] (tConsP (tVarP 2) (tConsP (tVarP 0) (tNilP)))) (tVarP 1))))
def ts_accepts (K : PySem.W.Frag) (CLine : Addr) : TSp := tSeqP (tIfSP (tOrP (tNotP (tBlP (tCBP (rIsI K) (tConsP (tVarP 0) (tConsP (tConP (.raw (.ty "tuple"))) (tNilP)))))) (tOrP (tBlP (tOpP rLt (tCBP rLen (tConsP (tVarP 0) (tNilP))) (tConP (.int 3)))) (tNotP (tBlP (tCBP (rIsI K) (tConsP (tOpP rIxP (tVarP 0) (tConP (.int 0))) (tConsP (tConP (.raw (.ty "str"))) (tNilP)))))))) (tRetP (tConP (.bl false))) (tNextP)) (tSeqP (tSetP 2 (tOpP rIxP (tVarP 0) (tConP (.int 1)))) (tSeqP (tSetP 3 (tOpP rIxP (tVarP 0) (tConP (.int 2)))) (tSeqP (tSetP 4 (tSliceAP (tVarP 0) (tPartP (tConP (.int 3))) (tNoPartP))) (tSeqP (tSetP 5 (tValP (tLcP (iKdP [("plan" : Str), ("no plan" : Str), ("route" : Str), ("fixed" : Str), ("not fixed" : Str), ("number" : Str), ("changes" : Str), ("no seat" : Str)]) (gNameP 7) (tBlP (tOpP (rEqI false) (tVarP 7) (tOpP rIxP (tVarP 0) (tConP (.int 0))))) (tVarP 7) [7]))) (tSeqP (tIfSP (tOrP (tNotP (tTruP (tVarP 5))) (tOrP (tBlP (tOpP (rEqI true) (tCBP rLen (tConsP (tVarP 4) (tNilP))) (tKdP [(("plan" : Str), .int 1), (("no plan" : Str), .int 0), (("route" : Str), .int 2), (("fixed" : Str), .int 1), (("not fixed" : Str), .int 1), (("number" : Str), .int 2), (("changes" : Str), .int 4), (("no seat" : Str), .int 3)] (tOpP rIxP (tVarP 5) (tConP (.int 0)))))) (tNotP (tBlP (tCallP (sp_are_of_a_line K CLine) [] (tConsP (tVarP 2) (tConsP (tVarP 3) (tNilP)))))))) (tRetP (tConP (.bl false))) (tNextP)) (tJudgeP 6 [(("changes" : Str), sp_changes_holds K CLine), (("no seat" : Str), sp_no_seat_holds K CLine)] (tOpP rIxP (tVarP 5) (tConP (.int 0))) (tConsP (tVarP 1) (tConsP (tVarP 2) (tConsP (tVarP 3) (tStarP (tVarP 4) (tNilP)))))))))))
def ts_law_fewest (K : PySem.W.Frag) (CLine : Addr) : TSp := tSeqP (tAsgP (tTupP (tConsP (tCallP (sp_law_held K CLine) [] (tConsP (tVarP 2) (tNilP))) (tConsP (tDic0P) (tNilP)))) (gTupP 2 (gConsP (gNameP 5) (gConsP (gNameP 6) (gNilP))))) (tSeqP (tForP (iRng2P (tVarP 3) (tVarP 4)) (gNameP 7) (tSeqP (tSetP 8 (tValP (tLcP (iTupP (tVarP 1)) (gNameP 12) (tBlP (tChainP rLe rLt (tOpP rIxP (tVarP 12) (tConP (.int 1))) (tVarP 7) (tOpP rIxP (tVarP 12) (tConP (.int 2))))) (tDGetP (tVarP 5) (tOpP rIxP (tVarP 12) (tConP (.int 0)))) [12]))) (tSeqP (tSetFDP 9 (tDicFD)) (tSeqP (tForP (iListP (tValP (tLcP (iRng2P (tConP (.int 1)) (tOpP rAdd (tVarP 0) (tConP (.int 1)))) (gNameP 10) (tBlP (tOpP (rInL true) (tVarP 10) (tVarP 8))) (tVarP 10) [10]))) (gNameP 10) (tSeqP (tSetP 11 (tIfP (tBlP (tOpP rGt (tVarP 7) (tVarP 3))) (tValP (tDCompP 6 13 10 moreF)) (tLstP (tConsP (tConP (.int 0)) (tNilP))))) (tIfSP (tBlP (tOpP (rEqP true) (tVarP 11) (tLstP (tNilP)))) (tDPutP 9 (tVarP 10) (tCBP rMinL (tConsP (tVarP 11) (tNilP)))) (tNextP)))) (tSetP 6 (tVarP 9)))))) (tRetP (tIfP (tBlP (tOpP rNeD0 (tVarP 6) (tDic0P))) (tCBP rMinL (tConsP (tValP (tDCompP 6 10 3 (fun _ _ v => v))) (tNilP))) (tConP .non))))
def ts_law_parts (K : PySem.W.Frag) (CLine : Addr) : TSp := tSeqP (tSetP 3 (tValP (tLcP (iRng2P (tConP (.int 1)) (tOpP rAdd (tVarP 0) (tConP (.int 1)))) (gNameP 5) (tYesP) (tTupP (tConsP (tTupP (tConsP (tVarP 5) (tConsP (tVarP 1) (tConsP (tVarP 2) (tNilP))))) (tNilP))) [5]))) (tSeqP (tForP (iRng2P (tOpP rAdd (tVarP 1) (tConP (.int 1))) (tVarP 2)) (gNameP 4) (tSeqP (tForP (iRng2P (tConP (.int 1)) (tOpP rAdd (tVarP 0) (tConP (.int 1)))) (gNameP 5) (tSetP 3 (tOpP rAdd (tVarP 3) (tValP (tLcP (iRng2P (tConP (.int 1)) (tOpP rAdd (tVarP 0) (tConP (.int 1)))) (gNameP 8) (tYesP) (tTupP (tConsP (tTupP (tConsP (tVarP 5) (tConsP (tVarP 1) (tConsP (tVarP 4) (tNilP))))) (tConsP (tTupP (tConsP (tVarP 8) (tConsP (tVarP 4) (tConsP (tVarP 2) (tNilP))))) (tNilP)))) [8]))))) (tForP (iRng2P (tOpP rAdd (tVarP 4) (tConP (.int 1))) (tVarP 2)) (gNameP 6) (tSeqP (tSetP 7 (tLstP (tConsP (tTupP (tConsP (tConP (.int 1)) (tConsP (tConP (.int 2)) (tConsP (tConP (.int 1)) (tNilP))))) (tConsP (tTupP (tConsP (tConP (.int 2)) (tConsP (tConP (.int 1)) (tConsP (tConP (.int 2)) (tNilP))))) (tConsP (tTupP (tConsP (tConP (.int 1)) (tConsP (tConP (.int 2)) (tConsP (tConP (.int 3)) (tNilP))))) (tConsP (tTupP (tConsP (tConP (.int 3)) (tConsP (tConP (.int 1)) (tConsP (tConP (.int 2)) (tNilP))))) (tConsP (tTupP (tConsP (tConP (.int 2)) (tConsP (tConP (.int 3)) (tConsP (tConP (.int 1)) (tNilP))))) (tNilP)))))))) (tSetP 3 (tOpP rAdd (tVarP 3) (tValP (tLcP (iListP (tVarP 7)) (gNameP 9) (tYesP) (tTupP (tConsP (tTupP (tConsP (tOpP rIxP (tVarP 9) (tConP (.int 0))) (tConsP (tVarP 1) (tConsP (tVarP 4) (tNilP))))) (tConsP (tTupP (tConsP (tOpP rIxP (tVarP 9) (tConP (.int 1))) (tConsP (tVarP 4) (tConsP (tVarP 6) (tNilP))))) (tConsP (tTupP (tConsP (tOpP rIxP (tVarP 9) (tConP (.int 2))) (tConsP (tVarP 6) (tConsP (tVarP 2) (tNilP))))) (tNilP))))) [9])))))))) (tRetP (tVarP 3)))
def ts_law_pairs (K : PySem.W.Frag) (CLine : Addr) : TSp := tSeqP (tSetP 2 (tLstP (tNilP))) (tSeqP (tForP (iRng2P (tVarP 0) (tVarP 1)) (gNameP 3) (tSetP 2 (tOpP rAdd (tVarP 2) (tValP (tLcP (iRng2P (tOpP rAdd (tVarP 3) (tConP (.int 1))) (tOpP rAdd (tVarP 1) (tConP (.int 1)))) (gNameP 6) (tYesP) (tTupP (tConsP (tVarP 3) (tConsP (tVarP 6) (tNilP)))) [6]))))) (tSeqP (tSetP 4 (tOpP rAdd (tLstP (tConsP (tTupP (tNilP)) (tNilP))) (tValP (tLcP (iListP (tVarP 2)) (gNameP 5) (tYesP) (tTupP (tConsP (tVarP 5) (tNilP))) [5])))) (tSeqP (tForP (iListP (tVarP 2)) (gNameP 5) (tSetP 4 (tOpP rAdd (tVarP 4) (tValP (tLcP (iListP (tVarP 2)) (gNameP 7) (tBlP (tOpP rGtT2 (tVarP 7) (tVarP 5))) (tTupP (tConsP (tVarP 5) (tConsP (tVarP 7) (tNilP)))) [7]))))) (tRetP (tVarP 4)))))
def ts_law_right (K : PySem.W.Frag) (CLine : Addr) : TSp := tSeqP (tSetP 1 (tCBP rSortD (tConsP (tCallRP 0 (sp_law_words K CLine) (tConsP (tOpP rAdd (tConP (.int 1)) (tCallRP 0 (sp_law_draw K CLine) (tConsP (tConP (.int 5)) (tNilP)))) (tNilP))) (tNilP)))) (tSeqP (tParP [2, 3, 4] (tConsV (tOpP rAdd (tConP (.int 1)) (tCallRP 0 (sp_law_draw K CLine) (tConsP (tConP (.int 3)) (tNilP)))) (tConsF (tLstFP (tNilP)) (tConsV (tConP (.int 0)) (tNilAr))))) (tSeqP (tForP (iListP (tVarP 1)) (gNameP 5) (tSeqP (tSetP 6 (tCallRP 0 (sp_law_draw K CLine) (tConsP (tConP (.int 6)) (tNilP)))) (tAppP 3 (tTupP (tConsP (tVarP 5) (tConsP (tVarP 6) (tConsP (tOpP rAdd (tOpP rAdd (tVarP 6) (tConP (.int 1))) (tCallRP 0 (sp_law_draw K CLine) (tConsP (tOpP rSub (tConP (.int 6)) (tVarP 6)) (tNilP)))) (tNilP)))))))) (tSeqP (tSetP 3 (tCBP rTuple (tConsP (tVarP 3) (tNilP)))) (tSeqP (tParP [7, 8] (tConsV (tCallRP 0 (sp_law_drawn K CLine) (tConsP (tVarP 2) (tConsP (tVarP 3) (tNilP)))) (tConsV (tCallRP 0 (sp_law_draw K CLine) (tConsP (tConP (.int 4)) (tNilP))) (tNilAr)))) (tSeqP (tSetP 9 (tOpP rAdd (tOpP rAdd (tVarP 8) (tConP (.int 1))) (tCallRP 0 (sp_law_draw K CLine) (tConsP (tConP (.int 4)) (tNilP))))) (tSeqP (tIfSP (tBlP (tOpP (rIsN false) (tVarP 7) (tConP .non))) (tRetP (tOpP (rIsT false) (tCallP (sp_accepts K CLine) [] (tConsP (tTupP (tConsP (tConP (.str ("no seat" : Str))) (tConsP (tVarP 2) (tConsP (tVarP 3) (tConsP (tTupP (tNilP)) (tConsP (tVarP 8) (tConsP (tVarP 9) (tNilP)))))))) (tConsP (tVarP 8) (tNilP)))) (tConP (.bl false)))) (tNextP)) (tSeqP (tAsgP (tTupP (tConsP (tTupP (tConsP (tVarP 2) (tConsP (tVarP 3) (tConsP (tVarP 7) (tConsP (tVarP 8) (tConsP (tVarP 9) (tNilP))))))) (tConsP (tCallP (sp_law_fewest K CLine) [] (tConsP (tVarP 2) (tConsP (tVarP 3) (tConsP (tVarP 7) (tConsP (tVarP 8) (tConsP (tVarP 9) (tNilP))))))) (tNilP)))) (gTupP 2 (gConsP (gNameP 10) (gConsP (gNameP 11) (gNilP))))) (tSeqP (tSetP 12 (tValP (tLcP (iRng1P (tConP (.int 8))) (gNameP 19) (tYesP) (tCallP (sp_accepts K CLine) [] (tConsP (tOpP rAdd (tTupP (tConsP (tConP (.str ("no seat" : Str))) (tNilP))) (tVarP 10)) (tConsP (tVarP 19) (tNilP)))) [19]))) (tSeqP (tIfSP (tOrP (tBlP (tOpP (rEqI true) (tCBP rAnyP (tConsP (tVarP 12) (tNilP))) (tOpP (rIsN false) (tVarP 11) (tConP .non)))) (tNotP (tBlP (tCBP rAllP (tConsP (tValP (tLcP (iListP (tVarP 12)) (gNameP 20) (tYesP) (tCBP (rIsI K) (tConsP (tVarP 20) (tConsP (tConP (.raw (.ty "bool"))) (tNilP)))) [20])) (tNilP)))))) (tRetP (tConP (.bl false))) (tNextP)) (tSeqP (tParP [13, 14] (tConsV (tCallP (sp_law_parts K CLine) [] (tConsP (tVarP 2) (tConsP (tVarP 8) (tConsP (tVarP 9) (tNilP))))) (tConsV (tCallP (sp_law_pairs K CLine) [] (tConsP (tVarP 8) (tConsP (tVarP 9) (tNilP)))) (tNilAr)))) (tSeqP (tForP (iRng1P (tConP (.int 3))) (gNameP 15) (tSeqP (tSetP 16 (tValP (tLcP (iListP (tVarP 13)) (gNameP 18) (tBlP (tOpP (rEqI false) (tCBP rLen (tConsP (tVarP 18) (tNilP))) (tOpP rAdd (tVarP 15) (tConP (.int 1))))) (tVarP 18) [18]))) (tSeqP (tSetP 17 (tValP (tLcP (iListP (tVarP 14)) (gNameP 18) (tBlP (tOpP (rEqI false) (tCBP rLen (tConsP (tVarP 18) (tNilP))) (tVarP 15))) (tVarP 18) [18]))) (tForP (iListP (tVarP 16)) (gNameP 18) (tSeqP (tSetP 12 (tValP (tLcP (iListP (tVarP 17)) (gNameP 21) (tYesP) (tCallP (sp_accepts K CLine) [] (tConsP (tOpP rAdd (tOpP rAdd (tTupP (tConsP (tConP (.str ("changes" : Str))) (tNilP))) (tVarP 10)) (tTupP (tConsP (tVarP 15) (tNilP)))) (tConsP (tTupP (tConsP (tVarP 18) (tConsP (tVarP 21) (tNilP)))) (tNilP)))) [21]))) (tSeqP (tIfSP (tAndP (tBlP (tCBP rAnyP (tConsP (tVarP 12) (tNilP)))) (tBlP (tOpP (rEqP true) (tVarP 11) (tVarP 15)))) (tRetP (tConP (.bl false))) (tNextP)) (tSetP 4 (tOpP rAdd (tVarP 4) (tCntBP (tVarP 12) (tConP (.bl true))))))))))) (tRetP (tOrVP (tOpP (rEqP false) (tVarP 11) (tConP (.int 2))) (tOpP (rEqI false) (tOpP rGt (tVarP 4) (tConP (.int 0))) (tOpP (rInLd false) (tVarP 11) (tLstP (tConsP (tConP (.int 0)) (tConsP (tConP (.int 1)) (tNilP)))))))))))))))))))
def ts_law (K : PySem.W.Frag) (CLine : Addr) : TSp := tRetP (tCBP rAllP (tConsP (tValP (tLcP (iRng1P (tConP (.int 2))) (gNameP 1) (tYesP) (tCallRFP (tCallFP (sp_law_pool K CLine) (tConsP (tCallP (sp_law_cell K CLine) [] (tConsP (tVarP 0) (tConsP (tVarP 1) (tNilP)))) (tNilP))) (sp_law_right K CLine) (tNilP)) [1])) (tNilP)))
section
variable {K : PySem.W.Frag} {C : Addr} {args : List PV} {P : PV → Prop} {PF : List PV → Prop} {PR : PV → Ow → Prop} {o : Ow}
theorem len_is_whole (h : sp_is_whole K C args P) : args.length = 2 := by obtain ⟨_, _, rfl, _⟩ := h; rfl
theorem len_is_tuple_of (h : sp_is_tuple_of K C args P) : args.length = 2 := by obtain ⟨_, _, rfl, _⟩ := h; rfl
theorem len_are_stations (h : sp_are_stations K C args P) : args.length = 2 := by obtain ⟨_, _, rfl, _⟩ := h; rfl
theorem len_is_booked (h : sp_is_booked K C args P) : args.length = 1 := by obtain ⟨_, rfl, _⟩ := h; rfl
theorem len_are_of_a_line (h : sp_are_of_a_line K C args P) : args.length = 2 := by obtain ⟨_, _, rfl, _⟩ := h; rfl
theorem len_is_one_of (h : sp_is_one_of K C args P) : args.length = 2 := by obtain ⟨_, _, rfl, _⟩ := h; rfl
theorem len_place_of (h : sp_place_of K C args P) : args.length = 3 := by obtain ⟨_, _, _, rfl, _⟩ := h; rfl
theorem len_seats_given (h : sp_seats_given K C args P) : args.length = 3 := by obtain ⟨_, _, _, rfl, _⟩ := h; rfl
theorem len_taken_before (h : sp_taken_before K C args P) : args.length = 4 := by obtain ⟨_, _, _, _, rfl, _⟩ := h; rfl
theorem len_overlap (h : sp_overlap K C args P) : args.length = 2 := by obtain ⟨_, _, rfl, _⟩ := h; rfl
theorem len_many_on (h : sp_many_on K C args P) : args.length = 2 := by obtain ⟨_, _, rfl, _⟩ := h; rfl
theorem len_is_unoccupied (h : sp_is_unoccupied K C args P) : args.length = 5 := by obtain ⟨_, _, _, _, rfl, _⟩ := h; rfl
theorem len_is_way (h : sp_is_way K C args P) : args.length = 5 := by obtain ⟨_, _, _, _, rfl, _⟩ := h; rfl
theorem len_is_blocked (h : sp_is_blocked K C args P) : args.length = 6 := by obtain ⟨_, _, _, _, _, rfl, _⟩ := h; rfl
theorem len_changes_holds (h : sp_changes_holds K C args P) : args.length = 7 := by obtain ⟨_, _, _, _, _, _, _, rfl, _⟩ := h; rfl
theorem len_no_seat_holds (h : sp_no_seat_holds K C args P) : args.length = 6 := by obtain ⟨_, _, _, _, _, _, rfl, _⟩ := h; rfl
theorem len_accepts (h : sp_accepts K C args P) : args.length = 2 := by
  rcases h with ⟨_, _, _, _, _, _, rfl, _⟩ | ⟨_, _, _, _, _, _, _, rfl, _⟩ <;> rfl
theorem len_law_fewest (h : sp_law_fewest K C args P) : args.length = 5 := by obtain ⟨_, _, _, _, rfl, _⟩ := h; rfl
theorem len_law_parts (h : sp_law_parts K C args P) : args.length = 3 := by obtain ⟨_, _, _, rfl, _⟩ := h; rfl
theorem len_law_pairs (h : sp_law_pairs K C args P) : args.length = 2 := by obtain ⟨_, _, rfl, _⟩ := h; rfl
theorem len_law_right (h : sp_law_right K C o args PR) : args.length = 0 := by obtain ⟨_, rfl, _⟩ := h; rfl
theorem len_law (h : sp_law K C args P) : args.length = 1 := by obtain ⟨_, rfl, _⟩ := h; rfl
end
end Z
set_option Elab.async false
set_option linter.all false
set_option maxRecDepth 100000
namespace Z
open PySem PySem.Spec L2
open PyProof.Rows hiding St
theorem blsOf_mapJ {α : Type} (f : α → Bool) : ∀ xs : List α, blsOf (xs.map fun c => PV.bl (f c)) = some (xs.map f)
  | [] => rfl
  | x :: xs => by rw [List.map_cons, blsOf, blsOf_mapJ f xs]; rfl
theorem bls_mapJ : ∀ bs : List Bool, blsOf (bs.map .bl) = some bs
  | [] => rfl
  | b :: bs => by rw [List.map_cons, blsOf, bls_mapJ bs]; rfl
theorem q_anyJ {bs : List Bool} {P : PV → Prop} (h : P (.bl (bs.any id))) : rAnyP [.lst (bs.map .bl)] P := ⟨bs, bls_mapJ bs, h⟩
theorem q_allJ {bs : List Bool} {P : PV → Prop} (h : P (.bl (bs.all id))) : rAllP [.lst (bs.map .bl)] P := ⟨bs, bls_mapJ bs, h⟩
theorem rep_all (n : Nat) : (List.replicate n true).all id = true := by simp
section
variable {K : PySem.W.Frag} {C : Addr} {args : List PV} {P : PV → Prop} {PF : List PV → Prop} {PR : PV → Ow → Prop} {o : Ow}
theorem rd_is_whole (h : sp_is_whole K C args P) : ts_is_whole K C { nx := fun _ => P .non, rt := fun x _ => P x } (startP 2 args) := by
  obtain ⟨x, l, rfl, hk, hp⟩ := h
  have e : startP 2 [x, .int l] = [.va x, .va (.int l)] := rfl
  rw [e]
  refine w_ret (w_andV (w_cb (w_cons (w_var (x := x) rfl (w_cons (w_con (w_nil (isi_int (.inl hk) ?_))))))))
  cases x <;> try exact hp
  · exact w_andV (w_notV (w_cb (w_cons (w_var (x := .bl _) rfl (w_cons (w_con (w_nil (isi_bool (.inl rfl) hp))))))))
  · exact w_andV (w_notV (w_cb (w_cons (w_var (x := .int _) rfl (w_cons (w_con (w_nil (isi_bool (.inl rfl) (w_op (w_var (x := .int _) rfl (w_var (x := .int l) rfl (q_ge hp))))))))))))
theorem rd_is_tuple_of (h : sp_is_tuple_of K C args P) : ts_is_tuple_of K C { nx := fun _ => P .non, rt := fun x _ => P x } (startP 2 args) := by
  obtain ⟨x, n, rfl, hk, hp⟩ := h
  have e : startP 2 [x, .int n] = [.va x, .va (.int n)] := rfl
  rw [e]
  refine w_ret (w_andV (w_cb (w_cons (w_var (x := x) rfl (w_cons (w_con (w_nil (isi_tuple (.inl hk) ?_))))))))
  cases x <;> exact hp
theorem rd_are_stations (h : sp_are_stations K C args P) : ts_are_stations K C { nx := fun _ => P .non, rt := fun x _ => P x } (startP 2 args) := by
  obtain ⟨a, b, rfl, hp⟩ := h
  have e : startP 2 [.int a, .int b] = [.va (.int a), .va (.int b)] := rfl
  rw [e]
  unfold stnB at hp
  refine w_ret (w_andV (w_call (w_cons (w_var (x := .int a) rfl (w_cons (w_con (w_nil ⟨.int a, 0, rfl, rfl, ?_⟩)))))))
  show (match PV.bl (decide (0 ≤ a)) with | .bl true => _ | .bl false => _ | _ => False)
  cases h1 : decide (0 ≤ a) with
  | false => rw [h1] at hp; exact hp
  | true =>
    rw [h1] at hp
    refine w_andV (w_call (w_cons (w_var (x := .int b) rfl (w_cons (w_con (w_nil ⟨.int b, 0, rfl, rfl, ?_⟩))))))
    show (match PV.bl (decide (0 ≤ b)) with | .bl true => _ | .bl false => _ | _ => False)
    cases h2 : decide (0 ≤ b) with
    | false => rw [h2] at hp; exact hp
    | true =>
      rw [h2] at hp
      exact w_op (w_var (x := .int a) rfl (w_var (x := .int b) rfl (q_lt hp)))
theorem rd_is_one_of (h : sp_is_one_of K C args P) : ts_is_one_of K C { nx := fun _ => P .non, rt := fun x _ => P x } (startP 2 args) := by
  obtain ⟨i, n, rfl, hp⟩ := h
  have e : startP 2 [.int i, .int n] = [.va (.int i), .va (.int n)] := rfl
  rw [e]
  refine w_ret (w_andV (w_call (w_cons (w_var (x := .int i) rfl (w_cons (w_con (w_nil ⟨.int i, 1, rfl, rfl, ?_⟩)))))))
  show (match PV.bl (decide (1 ≤ i)) with | .bl true => _ | .bl false => _ | _ => False)
  cases h1 : decide (1 ≤ i) with
  | false => rw [h1] at hp; exact hp
  | true =>
    rw [h1] at hp
    exact w_op (w_var (x := .int i) rfl (w_var (x := .int n) rfl (q_le hp)))
theorem rd_is_booked (h : sp_is_booked K C args P) : ts_is_booked K C { nx := fun _ => P .non, rt := fun x _ => P x } (startP 2 args) := by
  obtain ⟨r, rfl, hn, h0, h1, hp⟩ := h
  have e : startP 2 [rowP r] = [.va (rowP r), .no] := rfl
  rw [e]
  have hb : decide (1 ≤ r.1.length) = true ∧ decide (r.1.length ≤ 8) = true ∧ (r.1.cps.toList.all fun c => decide (c ∈ abc.cps.toList)) = true := by
    have : (decide (1 ≤ r.1.length) && (decide (r.1.length ≤ 8) && r.1.cps.toList.all fun c => decide (c ∈ abc.cps.toList))) = true := hn
    rw [Bool.and_eq_true, Bool.and_eq_true] at this
    exact this
  obtain ⟨b1, b2, b3⟩ := hb
  have b1 := of_decide_eq_true b1
  have b2 := of_decide_eq_true b2
  have sz : 1000 < sizeLine := by decide
  refine w_seq (w_if (w_or (w_not (w_bl (w_call (w_cons (w_var (x := rowP r) rfl (w_cons (w_con (w_nil ⟨rowP r, 3, rfl, rfl, ?_⟩))))))))))
  refine q_iteF (w_or (w_not (w_bl (w_cb (w_cons (w_op (w_var (x := rowP r) rfl (w_con (q_ixT (x := .str r.1) rfl ?_)))))))))
  refine w_cons (w_con (w_nil (isi_str (.inl rfl) ?_)))
  refine q_iteF (w_not (w_bl (w_chain (w_con (w_cb (w_cons (w_op (w_var (x := rowP r) rfl (w_con (q_ixT (x := .str r.1) rfl ?_)))))))))) 
  refine w_nil (q_lenS (by omega) (q_le ⟨_, rfl, ?_⟩))
  rw [decide_eq_true (show (1 : Int) ≤ (r.1.length : Int) by omega)]
  refine q_iteT (w_con (q_le ?_))
  rw [decide_eq_true (show (r.1.length : Int) ≤ 8 by omega)]
  refine q_iteF (w_next ?_)
  dsimp only
  refine w_ret (w_andV (w_cb (w_cons (w_val (w_lc (w_istr (w_op (w_var (x := rowP r) rfl (w_con (q_ixT (x := .str r.1) rfl ?_))))))))))
  show ∃ Inv : Nat → List PV → EP' → Prop, _
  refine ⟨fun i acc η => acc = (r.1.cps.toList.take i).map (fun c => .bl (decide (c ∈ abc.cps.toList))) ∧ η = [.va (rowP r), .no], ⟨rfl, rfl⟩, ?_, ?_⟩
  · rintro i y acc η hi ⟨rfl, rfl⟩
    rw [List.getElem?_map] at hi
    obtain ⟨c, hc, rfl⟩ := Option.map_eq_some_iff.mp hi
    have hil := (List.getElem?_eq_some_iff.mp hc).1
    have ll : r.1.length = r.1.cps.toList.length := by simp [Str.length]
    refine w_gname (w_yes (q_iteT ?_))
    refine w_op (w_var (x := .str ⟨#[c]⟩) rfl (w_con (q_inS ⟨?_, ?_, rfl⟩)))
    · rw [List.length_map, List.length_take]; omega
    · rw [take_map hc]; rfl
  · rintro acc η ⟨rfl, rfl⟩
    rw [List.length_map, List.take_length]
    refine w_nil (q_all (blsOf_mapJ _ _) ?_)
    rw [List.all_map, show (r.1.cps.toList.all (id ∘ fun c => decide (c ∈ abc.cps.toList))) = true from b3]
    refine w_call (w_cons (w_op (w_var (x := rowP r) rfl (w_con (q_ixT (x := .int r.2.1) rfl (w_cons (w_op (w_var (x := rowP r) rfl (w_con (q_ixT (x := .int r.2.2) rfl ?_))))))))))
    refine w_nil ⟨r.2.1, r.2.2, rfl, ?_⟩
    unfold stnB
    rw [decide_eq_true h0, decide_eq_true (show 0 ≤ r.2.2 by omega), decide_eq_true h1]
    exact hp
theorem rd_overlap (h : sp_overlap K C args P) : ts_overlap K C { nx := fun _ => P .non, rt := fun x _ => P x } (startP 2 args) := by
  obtain ⟨a, b, rfl, hp⟩ := h
  have e : startP 2 [rowP a, rowP b] = [.va (rowP a), .va (rowP b)] := rfl
  rw [e]
  refine w_ret (w_andV (w_op (w_op (w_var (x := rowP a) rfl (w_con (q_ixT (x := .int a.2.1) rfl (w_op (w_var (x := rowP b) rfl (w_con (q_ixT (x := .int b.2.2) rfl (q_lt ?_)))))))))))
  unfold meetB at hp
  by_cases c1 : a.2.1 < b.2.2
  · rw [decide_eq_true c1] at hp ⊢
    refine w_op (w_op (w_var (x := rowP b) rfl (w_con (q_ixT (x := .int b.2.1) rfl (w_op (w_var (x := rowP a) rfl (w_con (q_ixT (x := .int a.2.2) rfl (q_lt ?_)))))))))
    rw [Bool.true_and] at hp
    exact hp
  · rw [decide_eq_false c1] at hp ⊢
    exact hp
theorem rd_many_on (h : sp_many_on K C args P) : ts_many_on K C { nx := fun _ => P .non, rt := fun x _ => P x } (startP 3 args) := by
  obtain ⟨rs, st, rfl, hl, hp⟩ := h
  have e : startP 3 [rowsP rs, .int st] = [.va (rowsP rs), .va (.int st), .no] := rfl
  rw [e]
  refine w_ret (w_cb (w_cons (w_val (w_lc (w_itup (w_var (x := rowsP rs) rfl ?_))))))
  show ∃ Inv : Nat → List PV → EP' → Prop, _
  refine ⟨fun i acc η => acc = ((rs.take i).filter (passes st)).map rowP ∧ η = [.va (rowsP rs), .va (.int st), .no], ⟨rfl, rfl⟩, ?_, ?_⟩
  · rintro i x acc η hi ⟨rfl, rfl⟩
    rw [List.getElem?_map] at hi
    obtain ⟨r, hr, rfl⟩ := Option.map_eq_some_iff.mp hi
    refine w_gname (w_bl (w_chain (w_op (w_var (x := rowP r) rfl (w_con (q_ixT (x := .int r.2.1) rfl (w_var (x := .int st) rfl (q_le ⟨_, rfl, ?_⟩))))))))
    refine q_ite (fun a1 => w_op (w_var (x := rowP r) rfl (w_con (q_ixT (x := .int r.2.2) rfl (q_lt (q_ite (fun a2 => ?_) fun a2 => ?_)))))) fun a1 => q_iteF ?_
    · have pp : passes st r = true := by unfold passes; rw [decide_eq_true a1, decide_eq_true a2]; rfl
      refine w_var (x := rowP r) rfl ⟨by rw [List.length_map]; exact filt_len hl, ?_, rfl⟩
      rw [take_filterT hr pp, List.map_append]
      rfl
    · have pp : passes st r = false := by unfold passes; rw [decide_eq_true a1, decide_eq_false a2]; rfl
      exact ⟨by rw [take_filterF hr pp], rfl⟩
    · have pp : passes st r = false := by unfold passes; rw [decide_eq_false a1]; rfl
      exact ⟨by rw [take_filterF hr pp], rfl⟩
  · rintro acc η ⟨rfl, rfl⟩
    rw [List.length_map, List.take_length]
    refine w_nil (q_len ?_)
    rw [List.length_map]
    exact hp
end
end Z
set_option Elab.async false
set_option linter.all false
set_option maxRecDepth 100000
namespace Z
open PySem PySem.Spec L2
open PyProof.Rows hiding St
theorem cut_fromJ {α : Type} {f : α → PV} {xs : List α} {m : Int} (h0 : 0 ≤ m) : cutP (xs.map f) (some m) none = (xs.drop m.toNat).map f := by
  unfold cutP
  have e1 : HT.sIx (xs.map f).length (xs.map f).length none = (xs.map f).length := rfl
  have e0 : HT.sIx (xs.map f).length 0 (some m) = min m.toNat (xs.map f).length := by
    simp only [HT.sIx]
    rw [if_neg (by omega)]
  rw [e0, e1, List.take_of_length_le (by rw [List.length_drop]; exact Nat.le_refl _), ← List.map_drop]
  rw [List.length_map]
  by_cases h : m.toNat ≤ xs.length
  · rw [Nat.min_eq_left h]
  · rw [Nat.min_eq_right (by omega), List.drop_of_length_le (Nat.le_refl _), List.drop_of_length_le (by omega)]
theorem w_enumJ {te : TEp} {η : EP'} {QA : List PV → EP' → Prop} (h : te η fun x η1 => match x with
  | .tup xs => QA (enumP xs) η1
  | _ => False) : iEnumP te η QA := h
theorem w_zipMJ {t : TAp} {η : EP'} {QA : List PV → EP' → Prop} (h : t η fun zs η1 => match zs with
  | [.tup xs, .lst ys] => xs.length ≤ ys.length ∧ QA (zipP xs ys) η1
  | _ => False) : iZipMP t η QA := h
theorem enum_lenJ (xs : List PV) : (enumP xs).length = xs.length := by unfold enumP; rw [List.length_map, List.length_zipIdx]
theorem q_neOpt {o : Option Nat} {i : Nat} {P : PV → Prop} (h : P (.bl (!decide (o = some i)))) : rEqP true (optP o) (.int (i : Int)) P := by
  cases o with
  | none => exact ⟨.none, .int i, rfl, rfl, by decide, rfl, h⟩
  | some j =>
    refine q_ne ?_
    have e : decide ((j : Int) ≠ (i : Int)) = !decide (some j = some i) := by
      rw [Bool.eq_iff_iff, Bool.not_eq_true', decide_eq_true_iff, decide_eq_false_iff_not]
      constructor
      · intro a b; exact a (by rw [Option.some.inj b])
      · intro a b; exact a (by rw [show j = i by omega])
    rw [e]; exact h
theorem seat_extJ : ∀ {a b : List Seat}, a.map (·.1) = b.map (·.1) → a.map (·.2) = b.map (·.2) → a = b
  | [], [], _, _ => rfl
  | [], _ :: _, h, _ => by simp at h
  | _ :: _, [], h, _ => by simp at h
  | x :: a, y :: b, h1, h2 => by
    rw [List.map_cons, List.map_cons] at h1 h2
    obtain ⟨e1, r1⟩ := List.cons.inj h1
    obtain ⟨e2, r2⟩ := List.cons.inj h2
    rw [seat_extJ r1 r2, Prod.ext e1 e2]
theorem pair_sndJ {a : List Seat} {ps : List Pair} (h : a.map seatPair = ps) : a.map (·.2) = ps.map (·.2) := by
  rw [← h, List.map_map]; rfl
theorem plan_injJ {a b : List Pair} (h : planV a = planV b) : a = b := by
  unfold planV at h
  have h := PV.tup.inj h
  have : ∀ {a b : List Pair}, a.map pairS = b.map pairS → a = b := fun {a b} => by
    induction a generalizing b with
    | nil => intro h; cases b with | nil => rfl | cons _ _ => simp at h
    | cons x a ih =>
      intro h
      cases b with
      | nil => simp at h
      | cons y b =>
        rw [List.map_cons, List.map_cons] at h
        obtain ⟨e1, r1⟩ := List.cons.inj h
        unfold pairS at e1
        have e2 := PV.tup.inj e1
        obtain ⟨e3, e4⟩ := List.cons.inj e2
        obtain ⟨e5, _⟩ := List.cons.inj e4
        rw [ih r1, Prod.ext (PV.str.inj e3) (PV.int.inj e5)]
  exact this h
section
variable {K : PySem.W.Frag} {C : Addr} {args : List PV} {P : PV → Prop} {PF : List PV → Prop} {PR : PV → Ow → Prop} {o : Ow}
theorem rd_are_of_a_line (h : sp_are_of_a_line K C args P) : ts_are_of_a_line K C { nx := fun _ => P .non, rt := fun x _ => P x } (startP 5 args) := by
  obtain ⟨n, rs, rfl, n1, n2, hw, hp⟩ := h
  have e : startP 5 [.int n, rowsP rs] = [.va (.int n), .va (rowsP rs), .no, .no, .no] := rfl
  rw [e]
  have sz : 1000 < sizeLine := by decide
  have hl := hw.len
  refine w_seq (w_if (w_or (w_not (w_bl (w_call (w_cons (w_var (x := .int n) rfl (w_cons (w_con (w_nil ⟨.int n, 1, rfl, rfl, ?_⟩))))))))))
  rw [show wholeB 1 (.int n) = true from decide_eq_true n1]
  refine q_iteF (w_bl (w_op (w_var (x := .int n) rfl (w_con (q_gt ?_)))))
  rw [decide_eq_false (show ¬ (20 : Int) < n by omega)]
  refine q_iteF (w_next ?_)
  dsimp only
  refine w_seq (w_if (w_or (w_not (w_bl (w_cb (w_cons (w_var (x := rowsP rs) rfl (w_cons (w_con (w_nil (isi_tuple (.inl rfl) ?_)))))))))))
  refine q_iteF (w_or (w_bl (w_op (w_cb (w_cons (w_var (x := rowsP rs) rfl (w_nil (q_lenT (w_con (q_gt ?_)))))))))) 
  rw [List.length_map, decide_eq_false (show ¬ (24 : Int) < (rs.length : Int) by omega)]
  refine q_iteF (w_not (w_bl (w_cb (w_cons (w_val (w_lc (w_itup (w_var (x := rowsP rs) rfl ?_))))))))
  show ∃ Inv : Nat → List PV → EP' → Prop, _
  refine ⟨fun i acc η => acc = List.replicate i (.bl true) ∧ ∃ s2, η = [.va (.int n), .va (rowsP rs), s2, .no, .no], ⟨rfl, _, rfl⟩, ?_, ?_⟩
  · rintro i x acc η hi ⟨rfl, s2, rfl⟩
    have hil := (List.getElem?_eq_some_iff.mp hi).1
    rw [List.length_map] at hil
    rw [List.getElem?_map] at hi
    obtain ⟨r, hr, rfl⟩ := Option.map_eq_some_iff.mp hi
    obtain ⟨b1, b2, b3⟩ := hw.each r (List.mem_of_getElem? hr)
    refine w_gname (w_yes (q_iteT (w_call (w_cons (w_var (x := rowP r) rfl (w_nil ⟨r, rfl, b1, b2, b3, ?_, ?_, _, rfl⟩))))))
    · rw [List.length_replicate]; omega
    · rw [List.replicate_succ']
  rintro acc η ⟨rfl, s2, rfl⟩
  refine w_nil (q_all (all_true60 _) ?_)
  rw [rep_all]
  refine q_iteF (w_next ?_)
  dsimp only
  refine w_ret (w_cb (w_cons (w_val (w_lc (w_zipT (w_cons (w_var (x := rowsP rs) rfl (w_cons (w_sliceA (w_var (x := rowsP rs) rfl (w_part (w_con (w_nop (q_slA (xs := rs.map rowP) ?_))))))))))))))
  rw [cut_fromJ (by decide)]
  refine w_nil ?_
  show ∃ Inv : Nat → List PV → EP' → Prop, _
  refine ⟨fun i acc η => acc = List.replicate i (.bl true) ∧ ∃ s3 s4, η = [.va (.int n), .va (rowsP rs), s2, s3, s4], ⟨rfl, _, _, rfl⟩, ?_, ?_⟩
  · rintro i x acc η hi ⟨rfl, s3, s4, rfl⟩
    obtain ⟨y, z, hy, hz, rfl⟩ := zipP_get hi
    rw [List.getElem?_map] at hy hz
    obtain ⟨a, ha, rfl⟩ := Option.map_eq_some_iff.mp hy
    obtain ⟨b, hb, rfl⟩ := Option.map_eq_some_iff.mp hz
    rw [List.getElem?_drop] at hb
    have hil := (List.getElem?_eq_some_iff.mp ha).1
    have hbl := (List.getElem?_eq_some_iff.mp hb).1
    refine w_gpS (w_yes (q_iteT ?_))
    refine w_op (w_op (w_var (x := rowP a) rfl (w_con (q_ixT (x := .str a.1) rfl (w_op (w_var (x := rowP b) rfl (w_con (q_ixT (x := .str b.1) rfl ?_))))))))
    have lt : a.1.cps.toList < b.1.cps.toList := by
      have := List.pairwise_iff_getElem.mp hw.asc i (Int.toNat 1 + i) hil hbl (by show i < 1 + i; omega)
      rw [(List.getElem?_eq_some_iff.mp ha).2, (List.getElem?_eq_some_iff.mp hb).2] at this
      exact this
    show _ < sizeLine ∧ _
    rw [decide_eq_true lt]
    exact ⟨by rw [List.length_replicate]; omega, by rw [List.replicate_succ'], _, _, rfl⟩
  · rintro acc η ⟨rfl, s3, s4, rfl⟩
    refine w_nil (q_all (all_true60 _) ?_)
    rw [rep_all]
    exact hp
theorem rd_place_of (h : sp_place_of K C args P) : ts_place_of K C { nx := fun _ => P .non, rt := fun x _ => P x } (startP 5 args) := by
  obtain ⟨n, rs, p, rfl, hp⟩ := h
  have e : startP 5 [.int n, rowsP rs, pairS p] = [.va (.int n), .va (rowsP rs), .va (pairS p), .no, .no] := rfl
  rw [e]
  refine w_seq (w_if (w_or (w_not (w_bl (w_call (w_cons (w_var (x := pairS p) rfl (w_cons (w_con (w_nil ⟨pairS p, 2, rfl, rfl, ?_⟩))))))))))
  refine q_iteF (w_or (w_not (w_bl (w_cb (w_cons (w_op (w_var (x := pairS p) rfl (w_con (q_ixT (x := .str p.1) rfl ?_)))))))))
  refine w_cons (w_con (w_nil (isi_str (.inl rfl) ?_)))
  refine q_iteF (w_not (w_bl (w_call (w_cons (w_op (w_var (x := pairS p) rfl (w_con (q_ixT (x := .int p.2) rfl ?_))))))))
  refine w_cons (w_var (x := .int n) rfl (w_nil ⟨p.2, n, rfl, ?_⟩))
  unfold placeO at hp
  by_cases c : 1 ≤ p.2 ∧ p.2 ≤ n
  case neg =>
    rw [if_neg c] at hp
    have : (decide (1 ≤ p.2) && decide (p.2 ≤ n)) = false := by rw [← Bool.decide_and]; exact decide_eq_false c
    rw [this]
    exact q_iteT (w_ret (w_con hp))
  rw [if_pos c] at hp
  rw [decide_eq_true c.1, decide_eq_true c.2]
  refine q_iteF (w_next ?_)
  dsimp only
  refine w_seq (w_for (w_enumJ (w_var (x := rowsP rs) rfl ?_)))
  show ∃ Inv : Nat → EP' → Prop, _
  refine ⟨fun i η => (∀ j (hj : j < rs.length), j < i → rs[j].1 ≠ p.1) ∧ ∃ s3 s4, η = [.va (.int n), .va (rowsP rs), .va (pairS p), s3, s4], ⟨fun j _ z => absurd z (Nat.not_lt_zero _), _, _, rfl⟩, ?_, ?_⟩
  · rintro i x η hi ⟨hno, s3, s4, rfl⟩
    obtain ⟨y, hy, rfl⟩ := enumP_get hi
    rw [List.getElem?_map] at hy
    obtain ⟨r, hr, rfl⟩ := Option.map_eq_some_iff.mp hy
    obtain ⟨hil, er⟩ := List.getElem?_eq_some_iff.mp hr
    refine w_gpS ?_
    simp only [List.set_cons_zero, List.set_cons_succ]
    refine w_if (w_bl (w_op (w_op (w_var (x := rowP r) rfl (w_con (q_ixT (x := .str r.1) rfl (w_op (w_var (x := pairS p) rfl (w_con (q_ixT (x := .str p.1) rfl (q_eqI (q_ite (fun c2 => ?_) fun c2 => ?_)))))))))))) 
    · refine w_ret (w_var (x := .int (i : Int)) rfl ?_)
      have : rs.findIdx? (fun r => decide (r.1 = p.1)) = some i := by
        rw [List.findIdx?_eq_some_iff_getElem]
        refine ⟨hil, by rw [er]; exact decide_eq_true c2, fun j hj => ?_⟩
        rw [Bool.not_eq_true]
        exact decide_eq_false (hno j (by omega) hj)
      rw [this] at hp
      exact hp
    · refine w_next ⟨fun j hj hji => ?_, _, _, rfl⟩
      by_cases e2 : j = i
      · subst e2; rw [er]; exact c2
      · exact hno j hj (by omega)
  · rintro η ⟨hno, s3, s4, rfl⟩
    rw [enum_lenJ, List.length_map] at hno
    dsimp only
    refine w_ret (w_con ?_)
    have : rs.findIdx? (fun r => decide (r.1 = p.1)) = none := by
      rw [List.findIdx?_eq_none_iff]
      intro x hx
      obtain ⟨j, hj, rfl⟩ := List.getElem_of_mem hx
      exact decide_eq_false (hno j hj hj)
    rw [this] at hp
    exact hp
theorem rd_taken_before (h : sp_taken_before K C args P) : ts_taken_before K C { nx := fun _ => P .non, rt := fun x _ => P x } (startP 5 args) := by
  obtain ⟨sd, r, rest, s, rfl, hl, hp⟩ := h
  have e : startP 5 [rowsP (sd.map (·.1) ++ r :: rest), wornP sd, .int (sd.length : Int), .int s] = [.va (rowsP (sd.map (·.1) ++ r :: rest)), .va (wornP sd), .va (.int (sd.length : Int)), .va (.int s), .no] := rfl
  rw [e]
  have sz : 1000 < sizeLine := by decide
  have at_r : atI ((sd.map (·.1) ++ r :: rest).map rowP) (sd.length : Int) = some (rowP r) := atI_nat60 (by
    rw [List.getElem?_map, List.getElem?_append_right (by rw [List.length_map]; exact Nat.le_refl _), List.length_map, Nat.sub_self]; rfl)
  refine w_ret (w_cb (w_cons (w_val (w_lc (w_rng1 (w_var (x := .int (sd.length : Int)) rfl ?_))))))
  refine ⟨by omega, by omega, ?_⟩
  rw [Int.toNat_natCast]
  show ∃ Inv : Nat → List PV → EP' → Prop, _
  refine ⟨fun i acc η => acc = ((sd.take i).map fun z => decide (z.2 = s) && meetB z.1 r).map .bl ∧ ∃ s4, η = [.va (rowsP (sd.map (·.1) ++ r :: rest)), .va (wornP sd), .va (.int (sd.length : Int)), .va (.int s), s4], ⟨rfl, _, rfl⟩, ?_, ?_⟩
  · rintro i x acc η hi ⟨rfl, s4, rfl⟩
    obtain ⟨hil, rfl⟩ := rangeP_get hi
    rw [Int.zero_add]
    have hz : sd[i]? = some sd[i] := List.getElem?_eq_getElem hil
    generalize hzz : sd[i] = z at hz
    have at_s : atI ((sd.map (·.2)).map PV.int) (i : Int) = some (.int z.2) := atI_nat60 (by rw [List.getElem?_map, List.getElem?_map, hz]; rfl)
    have at_z : atI ((sd.map (·.1) ++ r :: rest).map rowP) (i : Int) = some (rowP z.1) := atI_nat60 (by
      rw [List.getElem?_map, List.getElem?_append_left (by rw [List.length_map]; exact hil), List.getElem?_map, hz]; rfl)
    have fin : ∀ b, b = (decide (z.2 = s) && meetB z.1 r) → (((sd.take i).map fun z => decide (z.2 = s) && meetB z.1 r).map PV.bl).length < sizeLine ∧ ((sd.take i).map fun z => decide (z.2 = s) && meetB z.1 r).map PV.bl ++ [.bl b] = ((sd.take (i + 1)).map fun z => decide (z.2 = s) && meetB z.1 r).map .bl := fun b hb => by
      refine ⟨by rw [List.length_map, List.length_map, List.length_take]; omega, ?_⟩
      rw [take_map hz, List.map_append, hb]; rfl
    refine w_gname (w_yes (q_iteT ?_))
    refine w_andV (w_op (w_op (w_var (x := wornP sd) rfl (w_var (x := .int (i : Int)) rfl (q_ix at_s (w_var (x := .int s) rfl (q_eqN ?_)))))))
    cases c : decide (z.2 = s) with
    | false =>
      obtain ⟨f1, f2⟩ := fin false (by rw [c]; rfl)
      exact ⟨f1, f2, _, rfl⟩
    | true =>
      refine w_call (w_cons (w_op (w_var (x := rowsP (sd.map (·.1) ++ r :: rest)) rfl (w_var (x := .int (i : Int)) rfl (q_ixT at_z ?_)))))
      refine w_cons (w_op (w_var (x := rowsP (sd.map (·.1) ++ r :: rest)) rfl (w_var (x := .int (sd.length : Int)) rfl (q_ixT at_r (w_nil ⟨z.1, r, rfl, ?_⟩)))))
      obtain ⟨f1, f2⟩ := fin (meetB z.1 r) (by rw [c]; rfl)
      exact ⟨f1, f2, _, rfl⟩
  · rintro acc η ⟨rfl, s4, rfl⟩
    rw [rangeP_len, List.take_length]
    refine w_nil (q_anyJ ?_)
    rw [List.any_map]
    exact hp
end
end Z
set_option Elab.async false
set_option linter.all false
set_option maxRecDepth 100000
namespace Z
open PySem PySem.Spec L2
open PyProof.Rows hiding St
theorem wk_self {x : PV} (h : (tyN x).isSome = true) : wkV x = x := by cases x <;> first | rfl | (cases h)
theorem good_snocJ {n : Int} {sd : List Seat} {r : Trip} {s : Int} (g : GoodS n sd) (h1 : 1 ≤ s) (h2 : s ≤ n) (h : (sd.any fun z => decide (z.2 = s) && meetB z.1 r) = false) : GoodS n (sd ++ [(r, s)]) := by
  refine ⟨List.pairwise_append.mpr ⟨g.1, List.pairwise_singleton _ _, fun x hx y hy => ?_⟩, fun x hx => ?_⟩
  · rw [List.mem_singleton.mp hy]
    intro hm e
    have := List.any_eq_false.mp h x hx
    refine this ?_
    rw [Bool.and_eq_true, decide_eq_true_iff]
    exact ⟨e, by rw [meet_commS]; exact hm⟩
  · rcases List.mem_append.mp hx with hx | hx
    · exact g.2 x hx
    · rw [List.mem_singleton.mp hx]; exact ⟨h1, h2⟩
section
variable {K : PySem.W.Frag} {C : Addr} {args : List PV} {P : PV → Prop} {PF : List PV → Prop} {PR : PV → Ow → Prop} {o : Ow}
theorem rd_seats_given (h : sp_seats_given K C args P) : ts_seats_given K C { nx := fun _ => P .non, rt := fun x _ => P x } (startP 6 args) := by
  obtain ⟨n, rs, x, rfl, n1, n2, hw, hk, hx, hy, hn⟩ := h
  have e : startP 6 [.int n, rowsP rs, x] = [.va (.int n), .va (rowsP rs), .va x, .no, .no, .no] := rfl
  rw [e]
  have sz : 1000 < sizeLine := by decide
  have hl := hw.len
  refine w_seq (w_if (w_not (w_bl (w_call (w_cons (w_varK (x := x) rfl (w_cons (w_cb (w_cons (w_var (x := rowsP rs) rfl (w_nil (q_lenT ?_)))))))))))) 
  rw [List.length_map, wk_self hk]
  refine w_nil ⟨x, (rs.length : Int), rfl, hk, ?_⟩
  rcases hx with ⟨ps, rfl⟩ | hx
  case inr =>
    have : tupB (rs.length : Int) x = false := by cases x <;> first | rfl | exact absurd rfl (hx _)
    rw [this]
    exact q_iteT (w_ret (w_con (hn fun sd _ _ => hx _)))
  have tb : tupB (rs.length : Int) (planV ps) = decide ((ps.length : Int) = (rs.length : Int)) := by
    show decide (((ps.map pairS).length : Int) = (rs.length : Int)) = _
    rw [List.length_map]
  rw [tb]
  by_cases hlen : ps.length = rs.length
  case neg =>
    rw [decide_eq_false (by omega)]
    refine q_iteT (w_ret (w_con (hn fun sd _ er q => hlen ?_)))
    have := plan_injJ q
    rw [this, List.length_map, ← er, List.length_map]
  rw [decide_eq_true (by omega)]
  refine q_iteF (w_next ?_)
  dsimp only
  refine w_seq (w_setF (by decide) (w_lstF (w_nil ⟨by show 0 ≤ sizeLine; omega, by show 3 < 6; decide, ?_⟩)))
  simp only [List.set_cons_zero, List.set_cons_succ]
  refine w_seq (w_for (w_enumJ (w_varK (x := planV ps) rfl ?_)))
  show ∃ Inv : Nat → EP' → Prop, _
  refine ⟨fun i η => ∃ (sd : List Seat) (s4 s5 : Sl), sd.map (·.1) = rs.take i ∧ sd.map seatPair = ps.take i ∧ GoodS n sd ∧ η = [.va (.int n), .va (rowsP rs), .va (planV ps), .ow (.l ((sd.map (·.2)).map .int)), s4, s5], ⟨[], _, _, rfl, rfl, ⟨List.Pairwise.nil, fun _ z => absurd z List.not_mem_nil⟩, rfl⟩, ?_, ?_⟩
  · rintro i y η hi ⟨sd, s4, s5, hf, hps, g, rfl⟩
    obtain ⟨z, hz, rfl⟩ := enumP_get hi
    rw [List.getElem?_map] at hz
    obtain ⟨p, hp, rfl⟩ := Option.map_eq_some_iff.mp hz
    obtain ⟨hil, ep⟩ := List.getElem?_eq_some_iff.mp hp
    have hir : i < rs.length := by omega
    have hr : rs[i]? = some rs[i] := List.getElem?_eq_getElem hir
    generalize er : rs[i] = r at hr
    have sl : sd.length = i := by
      have := congrArg List.length hf
      rw [List.length_map, List.length_take] at this; omega
    have split : rs = sd.map (·.1) ++ r :: rs.drop (i + 1) := by
      rw [hf, ← er, List.getElem_cons_drop, List.take_append_drop]
    -- what any plan says here
    have any : ∀ sd', SdOk n sd' → sd'.map (·.1) = rs → planV ps = planV (sd'.map seatPair) → p.1 = r.1 ∧ 1 ≤ p.2 ∧ p.2 ≤ n ∧ (sd.any fun z => decide (z.2 = p.2) && meetB z.1 r) = false := fun sd' ok e1 e2 => by
      have e2 := plan_injJ e2
      have l' : i < sd'.length := by have := congrArg List.length e1; rw [List.length_map] at this; omega
      have a1 : sd'[i].1 = r := by
        have : (sd'.map (·.1))[i]? = some r := by rw [e1]; exact hr
        rw [List.getElem?_map, List.getElem?_eq_getElem l'] at this
        exact Option.some.inj this
      have a2 : seatPair sd'[i] = p := by
        have : (sd'.map seatPair)[i]? = some p := by rw [← e2]; exact hp
        rw [List.getElem?_map, List.getElem?_eq_getElem l'] at this
        exact Option.some.inj this
      have a3 : sd = sd'.take i := seat_extJ (by rw [hf, List.map_take, e1]) (by rw [pair_sndJ hps, e2, List.map_take, List.map_take, List.map_map]; rfl)
      obtain ⟨b1, b2⟩ := ok.g.2 sd'[i] (List.getElem_mem l')
      have a4 : p.2 = sd'[i].2 := by rw [← a2]; rfl
      refine ⟨by rw [← a2, ← a1]; rfl, by omega, by omega, ?_⟩
      rw [List.any_eq_false, a3]
      intro z hz hb
      rw [Bool.and_eq_true, decide_eq_true_iff] at hb
      obtain ⟨j, hj, rfl⟩ := List.getElem_of_mem hz
      rw [List.length_take] at hj
      rw [List.getElem_take] at hb
      have := List.pairwise_iff_getElem.mp ok.g.1 j i (by omega) l' (by omega)
      exact this (by rw [a1, meet_commS]; exact hb.2) (by rw [hb.1]; exact a4)
    refine w_gpS ?_
    simp only [List.set_cons_zero, List.set_cons_succ]
    refine w_seq (w_if (w_or (w_bl (w_op (w_call (w_cons (w_var (x := .int n) rfl (w_cons (w_var (x := rowsP rs) rfl (w_cons (w_var (x := pairS p) rfl (w_nil ⟨n, rs, p, rfl, ?_⟩))))))))))))
    refine w_var (x := .int (i : Int)) rfl (q_neOpt ?_)
    by_cases c : placeO n rs p = some i
    case neg =>
      rw [decide_eq_false c]
      refine q_iteT (q_iteT (w_ret (w_con (hn fun sd' ok e1 e2 => c ?_))))
      obtain ⟨c1, c2, c3, _⟩ := any sd' ok e1 e2
      unfold placeO
      rw [if_pos ⟨c2, c3⟩, List.findIdx?_eq_some_iff_getElem]
      refine ⟨hir, by rw [er]; exact decide_eq_true c1.symm, fun j hj => ?_⟩
      rw [Bool.not_eq_true]
      refine decide_eq_false fun q => ?_
      have := name_inj hw (List.getElem_mem (by omega : j < rs.length)) (List.getElem_mem hir) (by rw [q, er]; exact c1)
      have nd := List.pairwise_iff_getElem.mp (nodup_of_names (asc_nodup hw)) j i (by omega) hir hj
      exact nd this
    rw [decide_eq_true c]
    have pl : 1 ≤ p.2 ∧ p.2 ≤ n := by
      unfold placeO at c
      by_cases q : 1 ≤ p.2 ∧ p.2 ≤ n
      · exact q
      · rw [if_neg q] at c; cases c
    have pn : r.1 = p.1 := by
      unfold placeO at c
      rw [if_pos pl, List.findIdx?_eq_some_iff_getElem] at c
      obtain ⟨h1, h2, _⟩ := c
      rw [er] at h2
      exact of_decide_eq_true h2
    refine q_iteF (w_bl (w_callB (w_bv (w_var (x := rowsP rs) rfl (w_bb rfl (w_bv (w_var (x := .int (i : Int)) rfl (w_bv (w_op (w_var (x := pairS p) rfl (w_con (q_ixT (x := .int p.2) rfl ?_))))))))))))
    refine w_nilB ⟨[rowsP rs, wornP sd, .int (i : Int), .int p.2], rfl, sd, r, rs.drop (i + 1), p.2, ?_, by omega, rfl, ?_⟩
    · rw [← split, sl]
    cases tk : sd.any fun z => decide (z.2 = p.2) && meetB z.1 r with
    | true =>
      refine q_iteT (w_ret (w_con (hn fun sd' ok e1 e2 => ?_)))
      have := (any sd' ok e1 e2).2.2.2
      rw [tk] at this
      exact absurd this (by decide)
    | false =>
      refine q_iteF (w_next ?_)
      dsimp only
      refine w_app (xs := (sd.map (·.2)).map .int) rfl (w_op (w_var (x := pairS p) rfl (w_con (q_ixT (x := .int p.2) rfl ?_))))
      refine q_appM (xs := (sd.map (·.2)).map .int) rfl (by rw [List.length_map, List.length_map]; omega) ?_
      simp only [List.set_cons_zero, List.set_cons_succ]
      refine ⟨sd ++ [(r, p.2)], .va (.int (i : Int)), .va (pairS p), ?_, ?_, good_snocJ g pl.1 pl.2 tk, ?_⟩
      · rw [List.map_append, hf, List.take_succ, hr]; rfl
      · rw [List.map_append, hps, List.take_succ, hp]
        show _ ++ [(r.1, p.2)] = _ ++ [p]
        rw [pn]
      · rw [List.map_append, List.map_append]; rfl
  · rintro η ⟨sd, s4, s5, hf, hps, g, rfl⟩
    rw [enum_lenJ, List.length_map] at hf hps
    rw [hlen, List.take_length] at hf
    rw [List.take_length] at hps
    dsimp only
    refine w_ret (w_varO (o := .l ((sd.map (·.2)).map .int)) rfl ?_)
    exact hy sd ⟨n1, n2, by rw [hf]; exact hw, g⟩ hf (by rw [hps])
end
end Z
set_option Elab.async false
set_option linter.all false
set_option maxRecDepth 100000
namespace Z
open PySem PySem.Spec L2
open PyProof.Rows hiding St
theorem at_lastJ {L : List PV} {z : PV} : atI (L ++ [z]) (-1) = some z := by
  unfold atI ixN
  rw [if_neg (by decide), List.length_append, if_pos (by show -(((L.length + 1 : Nat)) : Int) ≤ -1; omega)]
  show (L ++ [z])[((-1 : Int) + ((L.length + 1 : Nat) : Int)).toNat]? = some z
  rw [show ((-1 : Int) + ((L.length + 1 : Nat) : Int)).toNat = L.length by omega, List.getElem?_append_right (Nat.le_refl _), Nat.sub_self]; rfl
theorem free_any {sd : List Seat} {s a b : Int} {w : Str} : (!(sd.any fun z => decide (z.2 = s) && meetB z.1 (w, a, b))) = decide (freeW sd s a b) := by
  rw [Bool.eq_iff_iff, Bool.not_eq_true', List.any_eq_false, decide_eq_true_iff]
  unfold freeW meetB
  constructor
  · intro h z hz e
    have := h z hz
    rw [Bool.and_eq_true, Bool.and_eq_true, decide_eq_true_iff, decide_eq_true_iff, decide_eq_true_iff] at this
    dsimp only at this
    by_cases c : z.1.2.1 < b
    · by_cases c2 : a < z.1.2.2
      · exact absurd ⟨e, c, c2⟩ this
      · omega
    · omega
  · intro h z hz q
    rw [Bool.and_eq_true, Bool.and_eq_true, decide_eq_true_iff, decide_eq_true_iff, decide_eq_true_iff] at q
    have := h z hz q.1
    dsimp only at q
    omega
theorem w_g3J {a b c : PV} {i j k : Nat} {η : EP'} {R : EP' → Prop} (h : R (((η.set i (.va a)).set j (.va b)).set k (.va c))) : gConsP (gNameP i) (gConsP (gNameP j) (gConsP (gNameP k) (gNilP))) [a, b, c] η R := ⟨rfl, h⟩
theorem w_rng2J {te tb : TEp} {η : EP'} {Q : List PV → EP' → Prop} (h : te η fun x η1 => tb η1 fun y η2 => match x, y with
  | .int i, .int j => -(2 ^ 62) ≤ i ∧ i < 2 ^ 62 ∧ -(2 ^ 62) ≤ j ∧ j < 2 ^ 62 ∧ Q (rangeP i (j - i).toNat) η2
  | _, _ => False) : iRng2P te tb η Q := h
def optI : Option Int → PV
  | none => .non
  | some i => .int i
theorem q_eqOptI {b : Option Int} {i : Int} {P : PV → Prop} (h : P (.bl (decide (b = some i)))) : rEqP false (.int i) (optI b) P := by
  cases b with
  | none => exact ⟨.int i, .none, rfl, rfl, rfl, by decide, h⟩
  | some j =>
    refine q_eq ?_
    have e : decide (i = j) = decide (some j = some i) := by
      rw [Bool.eq_iff_iff, decide_eq_true_iff, decide_eq_true_iff]
      exact ⟨fun a => by rw [a], fun a => (Option.some.inj a).symm⟩
    rw [e]; exact h
theorem upto_lenJ {n : Int} : (upto n).length = n.toNat := by unfold upto; rw [List.length_map, List.length_range]
theorem upto_atJ {n : Int} {i : Nat} (h : i < n.toNat) : (upto n)[i]? = some (1 + (i : Int)) := by
  unfold upto
  rw [List.getElem?_map, List.getElem?_range h]; rfl
section
variable {K : PySem.W.Frag} {C : Addr} {args : List PV} {P : PV → Prop} {PF : List PV → Prop} {PR : PV → Ow → Prop} {o : Ow}
theorem rd_is_unoccupied (h : sp_is_unoccupied K C args P) : ts_is_unoccupied K C { nx := fun _ => P .non, rt := fun x _ => P x } (startP 8 args) := by
  obtain ⟨sd, s, a, b, rfl, hl, hp⟩ := h
  have e : startP 8 [rowsP (sd.map (·.1)), wornP sd, .int s, .int a, .int b] = [.va (rowsP (sd.map (·.1))), .va (wornP sd), .va (.int s), .va (.int a), .va (.int b), .no, .no, .no] := rfl
  rw [e]
  have sz : 1000 < sizeLine := by decide
  refine w_seq (w_set (w_tup (w_cons (w_con (w_cons (w_var (x := .int a) rfl (w_cons (w_var (x := .int b) rfl (w_nil ⟨sz3, ?_⟩)))))))))
  simp only [List.set_cons_zero, List.set_cons_succ]
  refine w_ret (w_notV (w_cb (w_cons (w_val (w_lc (w_zipMJ (w_cons (w_var (x := rowsP (sd.map (·.1))) rfl (w_cons (w_var (x := wornP sd) rfl (w_nil ⟨by rw [List.length_map, List.length_map, List.length_map, List.length_map]; exact Nat.le_refl _, ?_⟩)))))))))))
  show ∃ Inv : Nat → List PV → EP' → Prop, _
  refine ⟨fun i acc η => acc = ((sd.take i).map fun z => decide (z.2 = s) && meetB z.1 (Str.empty, a, b)).map .bl ∧ ∃ s6 s7, η = [.va (rowsP (sd.map (·.1))), .va (wornP sd), .va (.int s), .va (.int a), .va (.int b), .va (rowP (Str.empty, a, b)), s6, s7], ⟨rfl, _, _, rfl⟩, ?_, ?_⟩
  · rintro i x acc η hi ⟨rfl, s6, s7, rfl⟩
    obtain ⟨y, z, hy, hz, rfl⟩ := zipP_get hi
    rw [List.getElem?_map, List.getElem?_map] at hy hz
    obtain ⟨r, hr, rfl⟩ := Option.map_eq_some_iff.mp hy
    obtain ⟨u, hu, rfl⟩ := Option.map_eq_some_iff.mp hr
    obtain ⟨v, hv, rfl⟩ := Option.map_eq_some_iff.mp hz
    rw [hu] at hv
    obtain ⟨u', hu', rfl⟩ := Option.map_eq_some_iff.mp hv
    cases hu'
    have hil := (List.getElem?_eq_some_iff.mp hu).1
    have fin : ∀ b', b' = (decide (u.2 = s) && meetB u.1 (Str.empty, a, b)) → (((sd.take i).map fun z => decide (z.2 = s) && meetB z.1 (Str.empty, a, b)).map PV.bl).length < sizeLine ∧ ((sd.take i).map fun z => decide (z.2 = s) && meetB z.1 (Str.empty, a, b)).map PV.bl ++ [.bl b'] = ((sd.take (i + 1)).map fun z => decide (z.2 = s) && meetB z.1 (Str.empty, a, b)).map .bl := fun b' hb => by
      refine ⟨by rw [List.length_map, List.length_map, List.length_take]; omega, ?_⟩
      rw [take_map hu, List.map_append, hb]; rfl
    refine w_gpS (w_yes (q_iteT ?_))
    refine w_andV (w_op (w_var (x := .int u.2) rfl (w_var (x := .int s) rfl (q_eqN ?_))))
    cases c : decide (u.2 = s) with
    | false =>
      obtain ⟨f1, f2⟩ := fin false (by rw [c]; rfl)
      exact ⟨f1, f2, _, _, rfl⟩
    | true =>
      refine w_call (w_cons (w_var (x := rowP u.1) rfl (w_cons (w_var (x := rowP (Str.empty, a, b)) rfl (w_nil ⟨u.1, (Str.empty, a, b), rfl, ?_⟩)))))
      obtain ⟨f1, f2⟩ := fin (meetB u.1 (Str.empty, a, b)) (by rw [c]; rfl)
      exact ⟨f1, f2, _, _, rfl⟩
  · rintro acc η ⟨rfl, s6, s7, rfl⟩
    rw [zipP_len (by rw [List.length_map, List.length_map, List.length_map, List.length_map]; exact Nat.le_refl _), List.length_map, List.length_map, List.take_length]
    refine w_nil (q_anyJ ?_)
    rw [List.any_map]
    show P (.bl (!(sd.any (id ∘ fun z => decide (z.2 = s) && meetB z.1 (Str.empty, a, b)))))
    rw [show (!(sd.any (id ∘ fun z => decide (z.2 = s) && meetB z.1 (Str.empty, a, b)))) = decide (freeW sd s a b) from free_any]
    exact hp
theorem rd_is_way (h : sp_is_way K C args P) : ts_is_way K C { nx := fun _ => P .non, rt := fun x _ => P x } (startP 11 args) := by
  obtain ⟨n, sd, x, ls, rfl, hl, hll, hp⟩ := h
  have e : startP 11 [.int n, rowsP (sd.map (·.1)), wornP sd, .int x, .tup (ls.map legP)] = [.va (.int n), .va (rowsP (sd.map (·.1))), .va (wornP sd), .va (.int x), .va (.tup (ls.map legP)), .no, .no, .no, .no, .no, .no] := rfl
  rw [e]
  obtain ⟨W, hW⟩ : ∃ W, wayB sd n none x ls = W := ⟨_, rfl⟩
  rw [hW] at hp
  refine w_seq (w_set (w_var (x := .int x) rfl ?_))
  simp only [List.set_cons_zero, List.set_cons_succ]
  refine w_seq (w_set (w_con ?_))
  simp only [List.set_cons_zero, List.set_cons_succ]
  refine w_seq (w_for (w_itup (w_var (x := .tup (ls.map legP)) rfl ?_)))
  show ∃ Inv : Nat → EP' → Prop, _
  refine ⟨fun i η => ∃ (st : Int) (b : Option Int) (s7 s8 s9 s10 : Sl), W = wayB sd n b st (ls.drop i) ∧ η = [.va (.int n), .va (rowsP (sd.map (·.1))), .va (wornP sd), .va (.int x), .va (.tup (ls.map legP)), .va (.int st), .va (optI b), s7, s8, s9, s10], ⟨x, none, _, _, _, _, hW.symm, rfl⟩, ?_, ?_⟩
  · rintro i y η hi ⟨st, b, s7, s8, s9, s10, hb, rfl⟩
    rw [List.getElem?_map] at hi
    obtain ⟨l, hl', rfl⟩ := Option.map_eq_some_iff.mp hi
    obtain ⟨hil, el⟩ := List.getElem?_eq_some_iff.mp hl'
    have ed : ls.drop i = l :: ls.drop (i + 1) := by rw [← el, List.getElem_cons_drop]
    rw [ed] at hb
    unfold wayB at hb
    rw [hb] at hp
    refine w_gname ?_
    simp only [List.set_cons_zero, List.set_cons_succ]
    refine w_seq (w_if (w_or (w_not (w_bl (w_call (w_cons (w_var (x := legP l) rfl (w_cons (w_con (w_nil ⟨legP l, 3, rfl, rfl, ?_⟩))))))))))
    refine q_iteF (w_or (w_not (w_bl (w_call (w_cons (w_op (w_var (x := legP l) rfl (w_con (q_ixT (x := .int l.1) rfl ?_)))))))))
    refine w_cons (w_var (x := .int n) rfl (w_nil ⟨l.1, n, rfl, ?_⟩))
    cases c1 : decide (1 ≤ l.1) && decide (l.1 ≤ n) with
    | false => rw [c1] at hp; exact q_iteT (q_iteT (w_ret (w_con hp)))
    | true =>
      rw [c1] at hp hb
      refine q_iteF (w_not (w_bl (w_call (w_cons (w_op (w_var (x := legP l) rfl (w_con (q_ixT (x := .int l.2.1) rfl ?_))))))))
      refine w_cons (w_op (w_var (x := legP l) rfl (w_con (q_ixT (x := .int l.2.2) rfl (w_nil ⟨l.2.1, l.2.2, rfl, ?_⟩)))))
      cases c2 : stnB l.2.1 l.2.2 with
      | false => rw [c2] at hp; exact q_iteT (w_ret (w_con hp))
      | true =>
        rw [c2] at hp hb
        refine q_iteF (w_next ?_)
        dsimp only
        refine w_seq (w_asg (w_var (x := legP l) rfl ⟨rfl, w_g3J ?_⟩))
        simp only [List.set_cons_zero, List.set_cons_succ]
        refine w_seq (w_if (w_or (w_bl (w_op (w_var (x := .int l.2.1) rfl (w_var (x := .int st) rfl (q_neN ?_)))))))
        cases c3 : decide (l.2.1 = st) with
        | false => rw [c3] at hp; exact q_iteT (q_iteT (w_ret (w_con hp)))
        | true =>
          rw [c3] at hp hb
          refine q_iteF (w_or (w_bl (w_op (w_var (x := .int l.1) rfl (w_var (x := optI b) rfl (q_eqOptI ?_))))))
          cases c4 : decide (b = some l.1) with
          | true => rw [c4] at hp; exact q_iteT (q_iteT (w_ret (w_con hp)))
          | false =>
            rw [c4] at hp hb
            refine q_iteF (w_not (w_bl (w_call (w_cons (w_var (x := rowsP (sd.map (·.1))) rfl (w_cons (w_var (x := wornP sd) rfl (w_cons (w_var (x := .int l.1) rfl (w_cons (w_var (x := .int l.2.1) rfl ?_)))))))))))
            refine w_cons (w_var (x := .int l.2.2) rfl (w_nil ⟨sd, l.1, l.2.1, l.2.2, rfl, hl, ?_⟩))
            cases c5 : decide (freeW sd l.1 l.2.1 l.2.2) with
            | false => rw [c5] at hp; exact q_iteT (w_ret (w_con hp))
            | true =>
              rw [c5] at hp hb
              refine q_iteF (w_next ?_)
              dsimp only
              refine w_seq (w_set (w_var (x := .int l.2.2) rfl ?_))
              simp only [List.set_cons_zero, List.set_cons_succ]
              refine w_set (w_var (x := .int l.1) rfl ?_)
              simp only [List.set_cons_zero, List.set_cons_succ]
              exact ⟨l.2.2, some l.1, _, _, _, _, by rw [hb]; rfl, rfl⟩
  · rintro η ⟨st, b, s7, s8, s9, s10, hb, rfl⟩
    rw [List.length_map, List.drop_length] at hb
    rw [hb] at hp
    dsimp only
    exact w_ret (w_con hp)
theorem rd_is_blocked (h : sp_is_blocked K C args P) : ts_is_blocked K C { nx := fun _ => P .non, rt := fun x _ => P x } (startP 7 args) := by
  obtain ⟨n, sd, x, e, p, rfl, hl, n1, n2, hp⟩ := h
  have e0 : startP 7 [.int n, rowsP (sd.map (·.1)), wornP sd, .int x, .int e, prP p] = [.va (.int n), .va (rowsP (sd.map (·.1))), .va (wornP sd), .va (.int x), .va (.int e), .va (prP p), .no] := rfl
  rw [e0]
  have sz : 1000 < sizeLine := by decide
  unfold blkB at hp
  refine w_seq (w_if (w_or (w_not (w_bl (w_call (w_cons (w_var (x := prP p) rfl (w_cons (w_con (w_nil ⟨prP p, 2, rfl, rfl, ?_⟩))))))))))
  refine q_iteF (w_or (w_not (w_bl (w_call (w_cons (w_op (w_var (x := prP p) rfl (w_con (q_ixT (x := .int p.1) rfl ?_)))))))))
  refine w_cons (w_op (w_var (x := prP p) rfl (w_con (q_ixT (x := .int p.2) rfl (w_nil ⟨p.1, p.2, rfl, ?_⟩)))))
  cases c1 : stnB p.1 p.2 with
  | false => rw [c1] at hp; exact q_iteT (q_iteT (w_ret (w_con hp)))
  | true =>
    rw [c1] at hp
    refine q_iteF (w_or (w_bl (w_op (w_op (w_var (x := prP p) rfl (w_con (q_ixT (x := .int p.1) rfl (w_var (x := .int x) rfl (q_lt ?_)))))))))
    by_cases c2 : x ≤ p.1
    case neg =>
      rw [decide_eq_false c2] at hp
      rw [decide_eq_true (show p.1 < x by omega)]
      exact q_iteT (q_iteT (w_ret (w_con hp)))
    rw [decide_eq_true c2] at hp
    rw [decide_eq_false (show ¬ p.1 < x by omega)]
    refine q_iteF (w_bl (w_op (w_op (w_var (x := prP p) rfl (w_con (q_ixT (x := .int p.2) rfl (w_var (x := .int e) rfl (q_gt ?_))))))))
    by_cases c3 : p.2 ≤ e
    case neg =>
      rw [decide_eq_false c3] at hp
      rw [decide_eq_true (show e < p.2 by omega)]
      exact q_iteT (w_ret (w_con hp))
    rw [decide_eq_true c3] at hp
    rw [decide_eq_false (show ¬ e < p.2 by omega)]
    refine q_iteF (w_next ?_)
    dsimp only
    refine w_ret (w_notV (w_cb (w_cons (w_val (w_lc (w_rng2J (w_con (w_op (w_var (x := .int n) rfl (w_con (q_add ?_)))))))))))
    refine ⟨by decide, by decide, by omega, by omega, ?_⟩
    rw [show (n + 1 - 1).toNat = n.toNat by omega]
    show ∃ Inv : Nat → List PV → EP' → Prop, _
    refine ⟨fun i acc η => acc = (((upto n).take i).map fun s => decide (freeW sd s p.1 p.2)).map .bl ∧ ∃ s6, η = [.va (.int n), .va (rowsP (sd.map (·.1))), .va (wornP sd), .va (.int x), .va (.int e), .va (prP p), s6], ⟨rfl, _, rfl⟩, ?_, ?_⟩
    · rintro i y acc η hi ⟨rfl, s6, rfl⟩
      obtain ⟨hin, rfl⟩ := rangeP_get hi
      refine w_gname (w_yes (q_iteT (w_call (w_cons (w_var (x := rowsP (sd.map (·.1))) rfl (w_cons (w_var (x := wornP sd) rfl (w_cons (w_var (x := .int (1 + (i : Int))) rfl ?_)))))))))
      refine w_cons (w_op (w_var (x := prP p) rfl (w_con (q_ixT (x := .int p.1) rfl ?_))))
      refine w_cons (w_op (w_var (x := prP p) rfl (w_con (q_ixT (x := .int p.2) rfl (w_nil ⟨sd, 1 + (i : Int), p.1, p.2, rfl, hl, ?_⟩)))))
      refine ⟨by rw [List.length_map, List.length_map, List.length_take, upto_lenJ]; omega, ?_, _, rfl⟩
      rw [take_map (upto_atJ hin), List.map_append]; rfl
    · rintro acc η ⟨rfl, s6, rfl⟩
      rw [rangeP_len, ← upto_lenJ, List.take_length]
      refine w_nil (q_anyJ ?_)
      rw [List.any_map]
      exact hp
end
end Z
set_option Elab.async false
set_option linter.all false
set_option maxRecDepth 100000
namespace Z
open PySem PySem.Spec L2
open PyProof.Rows hiding St
theorem plan_same {sd sd' : List Seat} (h1 : sd'.map (·.1) = sd.map (·.1)) (h2 : planV (sd.map seatPair) = planV (sd'.map seatPair)) : sd' = sd := by
  have h2 := plan_injJ h2
  exact seat_extJ h1 (by rw [pair_sndJ h2.symm]; rw [List.map_map]; rfl)
theorem w_truJ {te : TEp} {η : EP'} {QB : Bool → EP' → Prop} (h : te η fun x η1 => match x with
  | .lst xs => QB (!xs.isEmpty) η1
  | .tup xs => QB (!xs.isEmpty) η1
  | _ => False) : tTruP te η QB := h
theorem q_isNJ {x : PV} {b : Bool} {Q : PV → Prop} (e : isNon x = some b) (h : Q (.bl b)) : rIsN false x .non Q := ⟨b, e, h⟩
theorem w_kd {tab : List (Str × PV)} {tw : TEp} {η : EP'} {Q : PV → EP' → Prop} (h : tw η fun x η1 => ∃ z y, x = .str z ∧ tab.lookup z = some y ∧ Q y η1) : tKdP tab tw η Q := h
theorem w_ikd {ks : List Str} {η : EP'} {Q : List PV → EP' → Prop} (h : Q (ks.map .str) η) : iKdP ks η Q := h
theorem w_judge {i : Nat} {tab : List (Str × SpP)} {tw : TEp} {ta : TAp} {D : EndsP} {η : EP'} (h : tw η fun x η1 => ∃ z sp, x = .str z ∧ tab.lookup z = some sp ∧ i < η1.length ∧ ∀ v, ta (η1.set i (.va v)) fun args η2 => sp args fun r => D.rt r η2) : tJudgeP i tab tw ta D η := h
theorem w_starT {te : TEp} {t : TAp} {η : EP'} {Q : List PV → EP' → Prop} (h : te η fun x η1 => match x with
  | .lst xs => t η1 fun ys η2 => Q (xs ++ ys) η2
  | .tup xs => t η1 fun ys η2 => Q (xs ++ ys) η2
  | _ => False) : tStarP te t η Q := h
theorem last_snoc {L : List Leg} {l : Leg} {e : Int} : lastO e (L ++ [l]) = decide (l.2.2 = e) := by
  unfold lastO
  rw [List.getLast?_concat]
section
variable {K : PySem.W.Frag} {C : Addr} {args : List PV} {P : PV → Prop} {PF : List PV → Prop} {PR : PV → Ow → Prop} {o : Ow}
theorem rd_changes_holds (h : sp_changes_holds K C args P) : ts_changes_holds K C { nx := fun _ => P .non, rt := fun x _ => P x } (startP 13 args) := by
  obtain ⟨n, sd, x, e, c, ls, ps, rfl, ok, x0, xe, c0, hl1, hl2, hp⟩ := h
  have e0 : startP 13 [.tup [.tup (ls.map legP), .tup (ps.map prP)], .int n, rowsP (sd.map (·.1)), planS sd, .int x, .int e, .int c] = [.va (.tup [.tup (ls.map legP), .tup (ps.map prP)]), .va (.int n), .va (rowsP (sd.map (·.1))), .va (planS sd), .va (.int x), .va (.int e), .va (.int c), .no, .no, .no, .no, .no, .no] := rfl
  rw [e0]
  have sz : 2000 < sizeLine := by decide
  have hl : sd.length ≤ 24 := by have := ok.w.len; rw [List.length_map] at this; exact this
  unfold chgB at hp
  refine w_seq (w_set (w_call (w_cons (w_var (x := .int n) rfl (w_cons (w_var (x := rowsP (sd.map (·.1))) rfl (w_cons (w_varK (x := planS sd) rfl ?_))))))))
  refine w_nil ⟨n, sd.map (·.1), planV (sd.map seatPair), rfl, ok.n1, ok.n2, ok.w, rfl, .inl ⟨_, rfl⟩, fun sd' ok' e1 e2 => ?_, fun no => absurd rfl (no sd ok rfl)⟩
  obtain rfl := plan_same e1 e2
  simp only [List.set_cons_zero, List.set_cons_succ]
  refine w_seq (w_if (w_or (w_bl (w_op (w_var (x := wornP sd') rfl (w_con (q_isNJ (b := false) rfl ?_)))))))
  refine q_iteF (w_or (w_not (w_bl (w_call (w_cons (w_var (x := .int x) rfl (w_cons (w_var (x := .int e) rfl (w_nil ⟨x, e, rfl, ?_⟩)))))))))
  rw [show stnB x e = true by unfold stnB; rw [decide_eq_true x0, decide_eq_true (show 0 ≤ e by omega), decide_eq_true xe]; rfl]
  refine q_iteF (w_or (w_not (w_bl (w_call (w_cons (w_var (x := .int c) rfl (w_cons (w_con (w_nil ⟨.int c, 0, rfl, rfl, ?_⟩)))))))))
  rw [show wholeB 0 (.int c) = true from decide_eq_true c0]
  refine q_iteF (w_not (w_bl (w_call (w_cons (w_var (x := .tup [.tup (ls.map legP), .tup (ps.map prP)]) rfl (w_cons (w_con (w_nil ⟨_, 2, rfl, rfl, ?_⟩))))))))
  refine q_iteF (w_next ?_)
  dsimp only
  refine w_seq (w_asg (w_var (x := .tup [.tup (ls.map legP), .tup (ps.map prP)]) rfl (w_gpS ?_)))
  simp only [List.set_cons_zero, List.set_cons_succ]
  refine w_seq (w_if (w_or (w_not (w_bl (w_call (w_cons (w_var (x := .tup (ls.map legP)) rfl (w_cons (w_op (w_var (x := .int c) rfl (w_con (q_add ?_))))))))))))
  refine w_nil ⟨.tup (ls.map legP), c + 1, rfl, rfl, ?_⟩
  have t1 : tupB (c + 1) (.tup (ls.map legP)) = decide ((ls.length : Int) = c + 1) := by
    show decide (((ls.map legP).length : Int) = c + 1) = _
    rw [List.length_map]
  have t2 : tupB c (.tup (ps.map prP)) = decide ((ps.length : Int) = c) := by
    show decide (((ps.map prP).length : Int) = c) = _
    rw [List.length_map]
  rw [t1]
  cases c1 : decide ((ls.length : Int) = c + 1) with
  | false => rw [c1] at hp; exact q_iteT (q_iteT (w_ret (w_con hp)))
  | true =>
  rw [c1] at hp
  refine q_iteF (w_not (w_bl (w_call (w_cons (w_var (x := .tup (ps.map prP)) rfl (w_cons (w_var (x := .int c) rfl (w_nil ⟨.tup (ps.map prP), c, rfl, rfl, ?_⟩))))))))
  rw [t2]
  cases c2 : decide ((ps.length : Int) = c) with
  | false => rw [c2] at hp; exact q_iteT (w_ret (w_con hp))
  | true =>
  rw [c2] at hp
  refine q_iteF (w_next ?_)
  dsimp only
  refine w_seq (w_if (w_or (w_not (w_bl (w_call (w_cons (w_var (x := .int n) rfl (w_cons (w_var (x := rowsP (sd'.map (·.1))) rfl (w_cons (w_var (x := wornP sd') rfl ?_)))))))))))
  refine w_cons (w_var (x := .int x) rfl (w_cons (w_var (x := .tup (ls.map legP)) rfl (w_nil ⟨n, sd', x, ls, rfl, hl, hl1, ?_⟩))))
  cases c3 : wayB sd' n none x ls with
  | false => rw [c3] at hp; exact q_iteT (q_iteT (w_ret (w_con hp)))
  | true =>
  rw [c3] at hp
  obtain ⟨L, l, eL⟩ : ∃ L l, ls = L ++ [l] := by
    rcases List.eq_nil_or_concat ls with h | ⟨L, l, h⟩
    · rw [h] at c1; exact absurd (of_decide_eq_true c1) (by show ¬ ((0 : Nat) : Int) = c + 1; omega)
    · exact ⟨L, l, by rw [h, List.concat_eq_append]⟩
  have al : atI (ls.map legP) (-1) = some (legP l) := by rw [eL, List.map_append]; exact at_lastJ
  have lo : lastO e ls = decide (l.2.2 = e) := by rw [eL]; exact last_snoc
  rw [lo] at hp
  refine q_iteF (w_bl (w_op (w_op (w_op (w_var (x := .tup (ls.map legP)) rfl (w_neg' (w_con (q_ixT al ?_))))))))
  refine w_con (q_ixT (x := .int l.2.2) rfl (w_var (x := .int e) rfl (q_neN ?_)))
  cases c4 : decide (l.2.2 = e) with
  | false => rw [c4] at hp; exact q_iteT (w_ret (w_con hp))
  | true =>
  rw [c4] at hp
  refine q_iteF (w_next ?_)
  dsimp only
  refine w_seq (w_if (w_not (w_bl (w_cb (w_cons (w_val (w_lc (w_itup (w_var (x := .tup (ps.map prP)) rfl ?_)))))))))
  show ∃ Inv : Nat → List PV → EP' → Prop, _
  refine ⟨fun i acc η => acc = ((ps.take i).map (blkB sd' n x e)).map .bl ∧ ∃ s10, η = [.va (.tup [.tup (ls.map legP), .tup (ps.map prP)]), .va (.int n), .va (rowsP (sd'.map (·.1))), .va (planS sd'), .va (.int x), .va (.int e), .va (.int c), .va (wornP sd'), .va (.tup (ls.map legP)), .va (.tup (ps.map prP)), s10, .no, .no], ⟨rfl, _, rfl⟩, ?_, ?_⟩
  · rintro i y acc η hi ⟨rfl, s10, rfl⟩
    rw [List.getElem?_map] at hi
    obtain ⟨p, hpi, rfl⟩ := Option.map_eq_some_iff.mp hi
    have hil := (List.getElem?_eq_some_iff.mp hpi).1
    refine w_gname (w_yes (q_iteT (w_call (w_cons (w_var (x := .int n) rfl (w_cons (w_var (x := rowsP (sd'.map (·.1))) rfl (w_cons (w_var (x := wornP sd') rfl ?_)))))))))
    refine w_cons (w_var (x := .int x) rfl (w_cons (w_var (x := .int e) rfl (w_cons (w_var (x := prP p) rfl (w_nil ⟨n, sd', x, e, p, rfl, hl, ok.n1, ok.n2, ?_⟩))))))
    refine ⟨by rw [List.length_map, List.length_map, List.length_take]; omega, ?_, _, rfl⟩
    rw [take_map hpi, List.map_append]; rfl
  rintro acc η ⟨rfl, s10, rfl⟩
  rw [List.length_map, List.take_length]
  refine w_nil (q_allJ ?_)
  rw [List.all_map, show (ps.all (id ∘ blkB sd' n x e)) = ps.all (blkB sd' n x e) from rfl]
  cases c5 : ps.all (blkB sd' n x e) with
  | false => rw [c5] at hp; exact q_iteT (w_ret (w_con hp))
  | true =>
  rw [c5] at hp
  refine q_iteF (w_next ?_)
  dsimp only
  refine w_ret (w_cb (w_cons (w_val (w_lc (w_zipT (w_cons (w_var (x := .tup (ps.map prP)) rfl (w_cons (w_sliceA (w_var (x := .tup (ps.map prP)) rfl (w_part (w_con (w_nop (q_slA (xs := ps.map prP) ?_))))))))))))))
  rw [cut_fromJ (by decide)]
  refine w_nil ?_
  show ∃ Inv : Nat → List PV → EP' → Prop, _
  have zl : (zipP (ps.map prP) ((ps.drop (Int.toNat 1)).map prP)).length = (ps.zip (ps.drop 1)).length := by
    unfold zipP
    rw [List.length_zipWith, List.length_zip, List.length_map, List.length_map]; rfl
  have za : ∀ (i : Nat) (y : PV), (zipP (ps.map prP) ((ps.drop (Int.toNat 1)).map prP))[i]? = some y → ∃ p q, (ps.zip (ps.drop 1))[i]? = some (p, q) ∧ y = .tup [prP p, prP q] := fun i y h => by
    obtain ⟨y1, y2, h1, h2, rfl⟩ := zipP_get h
    rw [List.getElem?_map] at h1 h2
    obtain ⟨p, hp1, rfl⟩ := Option.map_eq_some_iff.mp h1
    obtain ⟨q, hq1, rfl⟩ := Option.map_eq_some_iff.mp h2
    exact ⟨p, q, List.getElem?_zip_eq_some.mpr ⟨hp1, hq1⟩, rfl⟩
  have zle : (ps.zip (ps.drop 1)).length ≤ 1000 := by rw [List.length_zip]; omega
  unfold apartB at hp
  generalize ps.zip (ps.drop 1) = Z at hp zl za zle
  refine ⟨fun i acc η => acc = ((Z.take i).map fun w => apart1 w.1 w.2).map .bl ∧ ∃ s11 s12, η = [.va (.tup [.tup (ls.map legP), .tup (ps.map prP)]), .va (.int n), .va (rowsP (sd'.map (·.1))), .va (planS sd'), .va (.int x), .va (.int e), .va (.int c), .va (wornP sd'), .va (.tup (ls.map legP)), .va (.tup (ps.map prP)), s10, s11, s12], ⟨rfl, _, _, rfl⟩, ?_, ?_⟩
  · rintro i y acc η hi ⟨rfl, s11, s12, rfl⟩
    obtain ⟨p, q, hz, rfl⟩ := za i y hi
    have hil := (List.getElem?_eq_some_iff.mp hz).1
    have fin : ∀ b', b' = apart1 p q → (((Z.take i).map fun w => apart1 w.1 w.2).map PV.bl).length < sizeLine ∧ ((Z.take i).map fun w => apart1 w.1 w.2).map PV.bl ++ [.bl b'] = ((Z.take (i + 1)).map fun w => apart1 w.1 w.2).map .bl := fun b' hb => by
      refine ⟨by rw [List.length_map, List.length_map, List.length_take]; omega, ?_⟩
      rw [take_map hz, List.map_append, hb]; rfl
    refine w_gpS (w_yes (q_iteT ?_))
    refine w_andV (w_op (w_var (x := prP p) rfl (w_var (x := prP q) rfl ⟨p.1, p.2, q.1, q.2, rfl, rfl, ?_⟩)))
    cases d1 : decide (p.1 < q.1 ∨ (p.1 = q.1 ∧ p.2 < q.2)) with
    | false =>
      obtain ⟨f1, f2⟩ := fin false (by unfold apart1; rw [d1]; rfl)
      exact ⟨f1, f2, _, _, rfl⟩
    | true =>
      refine w_op (w_op (w_var (x := prP p) rfl (w_con (q_ixT (x := .int p.2) rfl (w_op (w_op (w_var (x := prP q) rfl (w_con (q_ixT (x := .int q.1) rfl ?_)))))))))
      refine w_con (q_add (q_le ?_))
      obtain ⟨f1, f2⟩ := fin (decide (p.2 ≤ q.1 + 1)) (by unfold apart1; rw [d1]; rfl)
      exact ⟨f1, f2, _, _, rfl⟩
  · rintro acc η ⟨rfl, s11, s12, rfl⟩
    rw [zl, List.take_length]
    refine w_nil (q_allJ ?_)
    rw [List.all_map]
    exact hp
theorem rd_no_seat_holds (h : sp_no_seat_holds K C args P) : ts_no_seat_holds K C { nx := fun _ => P .non, rt := fun x _ => P x } (startP 6 args) := by
  obtain ⟨n, rs, pl, x, e, p, rfl, n1, n2, hw, hna, x0, xe, hp⟩ := h
  have e0 : startP 6 [.int p, .int n, rowsP rs, pl, .int x, .int e] = [.va (.int p), .va (.int n), .va (rowsP rs), .va pl, .va (.int x), .va (.int e)] := rfl
  rw [e0]
  rcases hna with ⟨sd, rfl, ok, er⟩ | ⟨rfl, hne⟩
  case inr =>
    refine w_seq (w_if (w_or (w_bl (w_op (w_call (w_cons (w_var (x := .int n) rfl (w_cons (w_var (x := rowsP rs) rfl (w_cons (w_varK (x := .tup []) rfl ?_)))))))))))
    refine w_nil ⟨n, rs, .tup [], rfl, n1, n2, hw, rfl, .inl ⟨[], rfl⟩, fun sd' ok' e1 e2 => ?_, fun no => ?_⟩
    · have e2 := plan_injJ (a := []) e2
      have : sd' = [] := List.map_eq_nil_iff.mp e2.symm
      rw [this] at e1
      exact absurd e1.symm hne
    · refine w_con (q_isNJ (b := true) rfl ?_)
      exact q_iteT (q_iteT (w_ret (w_con hp)))
  subst er
  have hl : (sd.map (·.1)).length ≤ 24 := ok.w.len
  have hp : P (.bl (fullB n x e p (sd.map (·.1)))) := hp
  unfold fullB at hp
  refine w_seq (w_if (w_or (w_bl (w_op (w_call (w_cons (w_var (x := .int n) rfl (w_cons (w_var (x := rowsP (sd.map (·.1))) rfl (w_cons (w_varK (x := planS sd) rfl ?_)))))))))))
  refine w_nil ⟨n, sd.map (·.1), planV (sd.map seatPair), rfl, n1, n2, hw, rfl, .inl ⟨_, rfl⟩, fun sd' ok' e1 e2 => ?_, fun no => absurd rfl (no sd ok rfl)⟩
  refine w_con (q_isNJ (b := false) rfl ?_)
  refine q_iteF (w_or (w_not (w_bl (w_call (w_cons (w_var (x := .int x) rfl (w_cons (w_var (x := .int e) rfl (w_nil ⟨x, e, rfl, ?_⟩)))))))))
  rw [show stnB x e = true by unfold stnB; rw [decide_eq_true x0, decide_eq_true (show 0 ≤ e by omega), decide_eq_true xe]; rfl]
  refine q_iteF (w_not (w_bl (w_call (w_cons (w_var (x := .int p) rfl (w_cons (w_var (x := .int x) rfl (w_nil ⟨.int p, x, rfl, rfl, ?_⟩))))))))
  show (if (!decide (x ≤ p)) = true then _ else _)
  cases c1 : decide (x ≤ p) with
  | false => rw [c1] at hp; exact q_iteT (w_ret (w_con hp))
  | true =>
  rw [c1] at hp
  refine q_iteF (w_next ?_)
  dsimp only
  refine w_ret (w_andV (w_op (w_var (x := .int p) rfl (w_var (x := .int e) rfl (q_lt ?_)))))
  cases c2 : decide (p < e) with
  | false => rw [c2] at hp; exact hp
  | true =>
  rw [c2] at hp
  refine w_op (w_call (w_cons (w_var (x := rowsP (sd.map (·.1))) rfl (w_cons (w_var (x := .int p) rfl (w_nil ⟨sd.map (·.1), p, rfl, hl, ?_⟩))))))
  exact w_var (x := .int n) rfl (q_eqN hp)
theorem acc_go {w : Str} {n : Int} {rs : List Trip} {rest : List PV} {cert : PV} {j : Int} {sp : SpP} (n1 : 1 ≤ n) (n2 : n ≤ 20) (hw : Rw rs) (hlen : rest.length ≤ 10)
    (hk : ([("plan" : Str), ("no plan" : Str), ("route" : Str), ("fixed" : Str), ("not fixed" : Str), ("number" : Str), ("changes" : Str), ("no seat" : Str)].filter fun k => decide (k = w)) = [w])
    (hs : ([(("plan" : Str), PV.int 1), (("no plan" : Str), .int 0), (("route" : Str), .int 2), (("fixed" : Str), .int 1), (("not fixed" : Str), .int 1), (("number" : Str), .int 2), (("changes" : Str), .int 4), (("no seat" : Str), .int 3)] : List (Str × PV)).lookup w = some (.int j))
    (hj : (rest.length : Int) = j) (ht : ([(("changes" : Str), sp_changes_holds K C), (("no seat" : Str), sp_no_seat_holds K C)] : List (Str × SpP)).lookup w = some sp) (hsp : sp (cert :: .int n :: rowsP rs :: rest) P) :
    ts_accepts K C { nx := fun _ => P .non, rt := fun x _ => P x } (startP 8 [.tup (.str w :: .int n :: rowsP rs :: rest), cert]) := by
  have e : startP 8 [.tup (.str w :: .int n :: rowsP rs :: rest), cert] = [.va (.tup (.str w :: .int n :: rowsP rs :: rest)), .va cert, .no, .no, .no, .no, .no, .no] := rfl
  rw [e]
  have sz : 1000 < sizeLine := by decide
  have i0 : atI (.str w :: .int n :: rowsP rs :: rest) 0 = some (.str w) := atI_nat60 (i := 0) rfl
  have i1 : atI (.str w :: .int n :: rowsP rs :: rest) 1 = some (.int n) := atI_nat60 (i := 1) rfl
  have i2 : atI (.str w :: .int n :: rowsP rs :: rest) 2 = some (rowsP rs) := atI_nat60 (i := 2) rfl
  have cut : cutP (.str w :: .int n :: rowsP rs :: rest) (some 3) none = rest := by
    have := cut_fromJ (f := fun x : PV => x) (xs := .str w :: .int n :: rowsP rs :: rest) (m := 3) (by decide)
    rw [List.map_id', List.map_id'] at this
    exact this
  refine w_seq (w_if (w_or (w_not (w_bl (w_cb (w_cons (w_var (x := .tup (.str w :: .int n :: rowsP rs :: rest)) rfl (w_cons (w_con (w_nil (isi_tuple (.inl rfl) ?_)))))))))))
  refine q_iteF (w_or (w_bl (w_op (w_cb (w_cons (w_var (x := .tup (.str w :: .int n :: rowsP rs :: rest)) rfl (w_nil (q_lenT (w_con (q_lt ?_)))))))))) 
  rw [decide_eq_false (show ¬ (((.str w :: .int n :: rowsP rs :: rest : List PV).length : Nat) : Int) < 3 by rw [List.length_cons, List.length_cons, List.length_cons]; omega)]
  refine q_iteF (w_not (w_bl (w_cb (w_cons (w_op (w_var (x := .tup (.str w :: .int n :: rowsP rs :: rest)) rfl (w_con (q_ixT i0 ?_))))))))
  refine w_cons (w_con (w_nil (isi_str (.inl rfl) ?_)))
  refine q_iteF (w_next ?_)
  dsimp only
  refine w_seq (w_set (w_op (w_var (x := .tup (.str w :: .int n :: rowsP rs :: rest)) rfl (w_con (q_ixT i1 ?_)))))
  simp only [List.set_cons_zero, List.set_cons_succ]
  refine w_seq (w_set (w_op (w_var (x := .tup (.str w :: .int n :: rowsP rs :: rest)) rfl (w_con (q_ixT i2 ?_)))))
  simp only [List.set_cons_zero, List.set_cons_succ]
  refine w_seq (w_set (w_sliceA (w_var (x := .tup (.str w :: .int n :: rowsP rs :: rest)) rfl (w_part (w_con (w_nop (q_slA (xs := .str w :: .int n :: rowsP rs :: rest) ?_)))))))
  rw [cut]
  simp only [List.set_cons_zero, List.set_cons_succ]
  refine w_seq (w_set (w_val (w_lc (w_ikd ?_))))
  generalize hks : [("plan" : Str), ("no plan" : Str), ("route" : Str), ("fixed" : Str), ("not fixed" : Str), ("number" : Str), ("changes" : Str), ("no seat" : Str)] = ks at hk
  have kl : ks.length = 8 := by rw [← hks]; rfl
  show ∃ Inv : Nat → List PV → EP' → Prop, _
  refine ⟨fun i acc η => acc = ((ks.take i).filter fun k => decide (k = w)).map .str ∧ ∃ s7, η = [.va (.tup (.str w :: .int n :: rowsP rs :: rest)), .va cert, .va (.int n), .va (rowsP rs), .va (.tup rest), .no, .no, s7], ⟨rfl, _, rfl⟩, ?_, ?_⟩
  · rintro i x acc η hi ⟨rfl, s7, rfl⟩
    rw [List.getElem?_map] at hi
    obtain ⟨k, hk', rfl⟩ := Option.map_eq_some_iff.mp hi
    have hil := (List.getElem?_eq_some_iff.mp hk').1
    refine w_gname (w_bl (w_op (w_var (x := .str k) rfl (w_op (w_var (x := .tup (.str w :: .int n :: rowsP rs :: rest)) rfl (w_con (q_ixT i0 (q_eqI ?_))))))))
    cases c : decide (k = w) with
    | false =>
      refine q_iteF ⟨?_, _, rfl⟩
      rw [take_filterF hk' c]
    | true =>
      refine q_iteT (w_var (x := .str k) rfl ⟨?_, ?_, _, rfl⟩)
      · rw [List.length_map]
        have := List.length_filter_le (fun k => decide (k = w)) (ks.take i)
        rw [List.length_take] at this
        omega
      · rw [take_filterT hk' c, List.map_append]; rfl
  rintro acc η ⟨rfl, s7, rfl⟩
  rw [List.length_map, List.take_length, hk]
  simp only [List.set_cons_zero, List.set_cons_succ]
  have w0 : atI [PV.str w] 0 = some (.str w) := atI_nat60 (i := 0) rfl
  refine w_seq (w_if (w_or (w_not (w_truJ (w_var (x := .lst [.str w]) rfl ?_)))))
  refine q_iteF (w_or (w_bl (w_op (w_cb (w_cons (w_var (x := .tup rest) rfl (w_nil (q_lenT ?_))))))))
  refine w_kd (w_op (w_var (x := .lst [.str w]) rfl (w_con (q_ix w0 ⟨w, .int j, rfl, hs, q_neN ?_⟩))))
  rw [decide_eq_true hj]
  refine q_iteF (w_not (w_bl (w_call (w_cons (w_var (x := .int n) rfl (w_cons (w_var (x := rowsP rs) rfl (w_nil ⟨n, rs, rfl, n1, n2, hw, ?_⟩))))))))
  refine q_iteF (w_next ?_)
  dsimp only
  refine w_judge (w_op (w_var (x := .lst [.str w]) rfl (w_con (q_ix w0 ⟨w, sp, rfl, ht, by show 6 < 8; decide, fun v => ?_⟩))))
  simp only [List.set_cons_zero, List.set_cons_succ]
  refine w_cons (w_var (x := cert) rfl (w_cons (w_var (x := .int n) rfl (w_cons (w_var (x := rowsP rs) rfl (w_starT (w_var (x := .tup rest) rfl (w_nil ?_))))))))
  rw [List.append_nil]
  exact hsp
theorem rd_accepts (h : sp_accepts K C args P) : ts_accepts K C { nx := fun _ => P .non, rt := fun x _ => P x } (startP 8 args) := by
  rcases h with ⟨n, rs, pl, x, e, p, rfl, n1, n2, hw, hna, x0, xe, hp⟩ | ⟨n, sd, x, e, c, ls, ps, rfl, ok, x0, xe, c0, hl1, hl2, hp⟩
  · exact acc_go (w := ("no seat" : Str)) (j := 3) (rest := [pl, .int x, .int e]) n1 n2 hw (by show 3 ≤ 10; decide) (by decide +kernel) rfl rfl rfl ⟨n, rs, pl, x, e, p, rfl, n1, n2, hw, hna, x0, xe, hp⟩
  · exact acc_go (w := ("changes" : Str)) (j := 4) (rest := [planS sd, .int x, .int e, .int c]) ok.n1 ok.n2 ok.w (by show 4 ≤ 10; decide) (by decide +kernel) rfl rfl rfl ⟨n, sd, x, e, c, ls, ps, rfl, ok, x0, xe, c0, hl1, hl2, hp⟩
end
end Z
set_option Elab.async false
set_option linter.all false
set_option maxRecDepth 100000
namespace Z
open PySem PySem.Spec L2
open PyProof.Rows hiding St
theorem minW_spec : ∀ (xs : List Int) (e : Int), (minW e xs = e ∨ minW e xs ∈ xs) ∧ minW e xs ≤ e ∧ ∀ y ∈ xs, minW e xs ≤ y
  | [], e => ⟨.inl rfl, Int.le_refl _, fun y h => by cases h⟩
  | b :: xs, e => by
    have eq : minW e (b :: xs) = minW (if b < e then b else e) xs := rfl
    rw [eq]
    obtain ⟨h1, h2, h3⟩ := minW_spec xs (if b < e then b else e)
    have le1 : (if b < e then b else e) ≤ e := by split <;> omega
    have le2 : (if b < e then b else e) ≤ b := by split <;> omega
    refine ⟨?_, ?_, fun y hy => ?_⟩
    · rcases h1 with h1 | h1
      · rw [h1]; split
        · exact .inr List.mem_cons_self
        · exact .inl rfl
      · exact .inr (List.mem_cons_of_mem _ h1)
    · exact Int.le_trans h2 le1
    · rcases List.mem_cons.mp hy with z | z
      · rw [z]; exact Int.le_trans h2 le2
      · exact h3 y z
def minO : List Int → Int
  | [] => 0
  | e :: xs => minW e xs
theorem minO_spec : ∀ {xs : List Int}, xs ≠ [] → minO xs ∈ xs ∧ ∀ y ∈ xs, minO xs ≤ y
  | [], h => absurd rfl h
  | e :: xs, _ => by
    obtain ⟨a, b, c⟩ := minW_spec xs e
    refine ⟨?_, fun y hy => ?_⟩
    · rcases a with a | a
      · show minW e xs ∈ _; rw [a]; exact List.mem_cons_self
      · exact List.mem_cons_of_mem _ a
    · rcases List.mem_cons.mp hy with z | z
      · rw [z]; exact b
      · exact c y z
abbrev Layer := List (Int × Int)
def costW (s : Int) (p : Int × Int) : Int := p.2 + if p.1 = s then 0 else 1
def LastW (sd : List Seat) (n x : Int) (m : Nat) (s y : Int) : Prop := ∃ z k, m = k + 1 ∧ x ≤ z ∧ z < y ∧ 1 ≤ s ∧ s ≤ n ∧ freeW sd s z y ∧ CovW sd n z k x
section
variable {sd : List Seat} {n e s x y z : Int}
theorem free_sub {x' y' : Int} (h : freeW sd s x y) (h1 : x ≤ x') (h2 : y' ≤ y) : freeW sd s x' y' := fun z hz hs => by
  have := h z hz hs
  omega
theorem cov_app : ∀ (a : Nat) (x b : Int) (k : Nat), CovW sd n b a x → b ≤ e → CovW sd n e k b → CovW sd n e (a + k) x
  | 0, x, b, k, h, _, hk => by
    have : x = b := h
    rw [Nat.zero_add, this]; exact hk
  | a + 1, x, b, k, ⟨s, y, s1, s2, y1, y2, hf, hc⟩, hb, hk => by
    rw [Nat.add_right_comm]
    exact ⟨s, y, s1, s2, y1, by omega, hf, cov_app a y b k hc hb hk⟩
theorem cov_le : ∀ (m : Nat) (x : Int), CovW sd n e m x → x ≤ e
  | 0, x, h => Int.le_of_eq h
  | m + 1, x, ⟨_, y, _, _, h1, h2, _, _⟩ => by omega
theorem cov_snoc : ∀ (m : Nat) (x : Int), CovW sd n y (m + 1) x → ∃ s, LastW sd n x (m + 1) s y
  | 0, x, ⟨s, y1, s1, s2, h1, h2, hf, hc⟩ => by
    have e1 : y1 = y := hc
    subst e1
    exact ⟨s, x, 0, rfl, Int.le_refl _, h1, s1, s2, hf, rfl⟩
  | m + 1, x, ⟨s, y1, s1, s2, h1, h2, hf, hc⟩ => by
    obtain ⟨t, z, k, ek, hz1, hz2, t1, t2, hf2, hc2⟩ := cov_snoc m y1 hc
    obtain rfl : m = k := by omega
    exact ⟨t, z, m + 1, rfl, by omega, hz2, t1, t2, hf2, s, y1, s1, s2, h1, hz1, hf, hc2⟩
theorem last_cov {m : Nat} (h : LastW sd n x m s y) : CovW sd n y m x := by
  obtain ⟨z, k, rfl, h1, h2, s1, s2, hf, hc⟩ := h
  exact cov_app k x z 1 hc (Int.le_of_lt h2) ⟨s, y, s1, s2, h2, Int.le_refl _, hf, rfl⟩
theorem free_join (hw : Rw (sd.map (·.1))) (h1 : freeW sd s x y) (h2 : freeW sd s y z) : freeW sd s x z := fun u hu hs => by
  have g := (hw.each u.1 (List.mem_map.mpr ⟨u, hu, rfl⟩)).2.2
  have a := h1 u hu hs
  have b := h2 u hu hs
  omega
end
theorem put_new {kvs : List (Key × PV)} {k : Key} {x : PV} (h : ∀ p ∈ kvs, p.1 ≠ k) : putP kvs k x = kvs ++ [(k, x)] := by
  unfold putP
  rw [if_neg]
  rw [List.any_eq_true]
  rintro ⟨p, hp, e⟩
  exact h p hp (of_decide_eq_true e)
def layD (L : Layer) : List (Key × PV) := L.map fun p => (Sum.inl p.1, .int p.2)
theorem lay_val : ∀ {L : Layer}, (L.map (·.1)).Nodup → ∀ p ∈ L, valP (layD L) (.inl p.1) = some (.int p.2)
  | [], _, p, h => by cases h
  | a :: L, hn, p, h => by
    rw [List.map_cons, List.nodup_cons] at hn
    show (if (Sum.inl a.1 : Key) = .inl p.1 then some (PV.int a.2) else valP (layD L) (.inl p.1)) = _
    rcases List.mem_cons.mp h with e | e
    · rw [e, if_pos rfl]
    · rw [if_neg (fun z => hn.1 (by rw [Sum.inl.inj z]; exact List.mem_map.mpr ⟨p, e, rfl⟩))]
      exact lay_val hn.2 p e
theorem lay_vals {L : Layer} (hn : (L.map (·.1)).Nodup) : ∀ kv ∈ layD L, ∃ v, valP (layD L) kv.1 = some (.int v) := fun kv hkv => by
  obtain ⟨p, hp, rfl⟩ := List.mem_map.mp hkv
  exact ⟨p.2, lay_val hn p hp⟩
theorem dcomp_cost {L : Layer} (hn : (L.map (·.1)).Nodup) (s : Int) : dcompP moreF s (layD L) = (L.map (costW s)).map .int := by
  unfold dcompP
  conv => lhs; arg 2; unfold layD
  rw [List.map_map, List.map_map]
  refine List.map_congr_left fun p hp => ?_
  show PV.int (moreF s (.inl p.1) (intOfP (valP (layD L) (.inl p.1)))) = PV.int (costW s p)
  rw [lay_val hn p hp]
  rfl
theorem dcomp_all {L : Layer} (hn : (L.map (·.1)).Nodup) (s : Int) : dcompP (fun _ _ v => v) s (layD L) = (L.map (·.2)).map .int := by
  unfold dcompP
  conv => lhs; arg 2; unfold layD
  rw [List.map_map, List.map_map]
  refine List.map_congr_left fun p hp => ?_
  show PV.int (intOfP (valP (layD L) (.inl p.1))) = PV.int p.2
  rw [lay_val hn p hp]
  rfl
theorem q_minO {ns : List Int} {P : PV → Prop} (h : ns ≠ []) (hp : P (.int (minO ns))) : rMinL [.lst (ns.map .int)] P := by
  refine ⟨ns, intsOf_map _, List.length_pos_iff.mpr h, fun m h1 h2 => ?_⟩
  obtain ⟨a, b⟩ := minO_spec h
  have : m = minO ns := by
    have := h2 _ a
    have := b _ h1
    omega
  rw [this]; exact hp
theorem put_fresh {M : Layer} {s v : Int} (h : s ∉ M.map (·.1)) : putP (layD M) (.inl s) (.int v) = layD (M ++ [(s, v)]) := by
  rw [put_new (fun p hp e => by
    obtain ⟨q, hq, rfl⟩ := List.mem_map.mp hp
    exact h (by rw [← Sum.inl.inj e]; exact List.mem_map.mpr ⟨q, hq, rfl⟩))]
  unfold layD
  rw [List.map_append]; rfl
theorem meets_free {sd : List Seat} {s p : Int} : s ∉ (sd.filter fun z => passes p z.1).map (·.2) ↔ freeW sd s p (p + 1) := by
  unfold freeW
  constructor
  · intro h z hz e
    by_cases c : passes p z.1 = true
    · exact absurd (List.mem_map.mpr ⟨z, List.mem_filter.mpr ⟨hz, c⟩, e⟩) h
    · unfold passes at c
      rw [Bool.and_eq_true, decide_eq_true_iff, decide_eq_true_iff] at c
      omega
  · intro h q
    obtain ⟨z, hz, e⟩ := List.mem_map.mp q
    obtain ⟨hz, c⟩ := List.mem_filter.mp hz
    have := h z hz e
    unfold passes at c
    rw [Bool.and_eq_true, decide_eq_true_iff, decide_eq_true_iff] at c
    omega
theorem unit_free {sd : List Seat} {s p w : Int} (h1 : w ≤ p) (h : freeW sd s w (p + 1)) : freeW sd s p (p + 1) := fun z hz e => by
  have := h z hz e
  omega
def nowJ (f : Int → List Int) (S : List Int) : Layer := S.flatMap fun s => if f s = [] then [] else [(s, minO (f s))]
theorem now_snoc {f : Int → List Int} {S : List Int} {s : Int} : nowJ f (S ++ [s]) = nowJ f S ++ (if f s = [] then [] else [(s, minO (f s))]) := by
  unfold nowJ
  rw [List.flatMap_append, List.flatMap_singleton]
theorem nowJ_mem {f : Int → List Int} {S : List Int} {p : Int × Int} : p ∈ nowJ f S ↔ p.1 ∈ S ∧ f p.1 ≠ [] ∧ p.2 = minO (f p.1) := by
  unfold nowJ
  rw [List.mem_flatMap]
  constructor
  · rintro ⟨s, hs, h⟩
    by_cases c : f s = []
    · rw [if_pos c] at h; exact absurd h List.not_mem_nil
    · rw [if_neg c] at h
      have := List.mem_singleton.mp h
      rw [this]; exact ⟨hs, c, rfl⟩
  · rintro ⟨h1, h2, h3⟩
    refine ⟨p.1, h1, ?_⟩
    rw [if_neg h2, List.mem_singleton]
    exact Prod.ext rfl h3
theorem nowJ_keys {f : Int → List Int} : ∀ {S : List Int}, ((nowJ f S).map (·.1)).Sublist S
  | [] => List.Sublist.slnil
  | s :: S => by
    have ih := nowJ_keys (f := f) (S := S)
    unfold nowJ at ih ⊢
    rw [List.flatMap_cons]
    by_cases c : f s = []
    · rw [if_pos c]; exact ih.cons _
    · rw [if_neg c]; exact ih.cons₂ _
structure LayJ (sd : List Seat) (n x y : Int) (L : Layer) : Prop where
  snd : ∀ p ∈ L, 0 ≤ p.2 ∧ LastW sd n x (p.2.toNat + 1) p.1 y
  cpl : ∀ m s, LastW sd n x m s y → ∃ v, (s, v) ∈ L ∧ v + 1 ≤ m
def freeS (sd : List Seat) (n p : Int) : List Int := (upto n).filter fun s => decide (s ∉ (sd.filter fun z => passes p z.1).map (·.2))
theorem upto_memJ {n s : Int} : s ∈ upto n ↔ 1 ≤ s ∧ s ≤ n := by
  unfold upto
  rw [List.mem_map]
  constructor
  · rintro ⟨i, hi, rfl⟩
    have := List.mem_range.mp hi
    omega
  · rintro ⟨h1, h2⟩
    exact ⟨(s - 1).toNat, List.mem_range.mpr (by omega), by omega⟩
theorem freeS_mem {sd : List Seat} {n p s : Int} : s ∈ freeS sd n p ↔ (1 ≤ s ∧ s ≤ n) ∧ freeW sd s p (p + 1) := by
  unfold freeS
  rw [List.mem_filter, upto_memJ, decide_eq_true_iff, meets_free]
section
variable {sd : List Seat} {n x y : Int}
theorem layJ_first : LayJ sd n x (x + 1) (nowJ (fun _ => [0]) (freeS sd n x)) := by
  refine ⟨fun p hp => ?_, fun m s h => ?_⟩
  · obtain ⟨h1, _, h3⟩ := nowJ_mem.mp hp
    obtain ⟨⟨a, b⟩, c⟩ := freeS_mem.mp h1
    have e : p.2 = 0 := h3
    rw [e]
    exact ⟨Int.le_refl _, x, 0, rfl, Int.le_refl _, by omega, a, b, c, rfl⟩
  · obtain ⟨w, k, rfl, h1, h2, s1, s2, hf, hc⟩ := h
    have ew : w = x := by omega
    rw [ew] at hf
    exact ⟨0, nowJ_mem.mpr ⟨freeS_mem.mpr ⟨⟨s1, s2⟩, hf⟩, by simp, rfl⟩, by omega⟩
theorem layJ_next (hw : Rw (sd.map (·.1))) {L : Layer} (ok : LayJ sd n x y L) (hxy : x < y) : LayJ sd n x (y + 1) (nowJ (fun s => L.map (costW s)) (freeS sd n y)) := by
  refine ⟨fun p hp => ?_, fun m s h => ?_⟩
  · obtain ⟨h1, h2, h3⟩ := nowJ_mem.mp hp
    obtain ⟨⟨a, b⟩, c⟩ := freeS_mem.mp h1
    obtain ⟨m1, m2⟩ := minO_spec h2
    obtain ⟨q, hq, e⟩ := List.mem_map.mp m1
    obtain ⟨q1, q2⟩ := ok.snd q hq
    rw [h3, ← e]
    unfold costW
    by_cases cc : q.1 = p.1
    · rw [if_pos cc, Int.add_zero]
      obtain ⟨w, k, ek, a1, a2, a3, a4, a5, a6⟩ := q2
      exact ⟨q1, w, k, ek, a1, by omega, a, b, free_join hw (by rw [← cc]; exact a5) c, a6⟩
    · rw [if_neg cc]
      refine ⟨by omega, y, q.2.toNat + 1, by omega, Int.le_of_lt hxy, by omega, a, b, c, last_cov q2⟩
  · obtain ⟨w, k, rfl, h1, h2, s1, s2, hf, hc⟩ := h
    have fr : freeW sd s y (y + 1) := by
      by_cases c : w ≤ y
      · exact unit_free c hf
      · have : w = y + 1 := by omega
        omega
    have fin : ∀ q ∈ L, costW s q + 1 ≤ ((k + 1 : Nat) : Int) → ∃ v, (s, v) ∈ nowJ (fun s => L.map (costW s)) (freeS sd n y) ∧ v + 1 ≤ ((k + 1 : Nat) : Int) := fun q hq hc2 => by
      have ne : L.map (costW s) ≠ [] := fun z => by
        have := List.map_eq_nil_iff.mp z
        rw [this] at hq; exact absurd hq List.not_mem_nil
      obtain ⟨_, m2⟩ := minO_spec ne
      have := m2 _ (List.mem_map.mpr ⟨q, hq, rfl⟩)
      exact ⟨minO (L.map (costW s)), nowJ_mem.mpr ⟨freeS_mem.mpr ⟨⟨s1, s2⟩, fr⟩, ne, rfl⟩, by omega⟩
    by_cases hwy : w < y
    · have hl : LastW sd n x (k + 1) s y := ⟨w, k, rfl, h1, hwy, s1, s2, free_sub hf (Int.le_refl _) (by omega), hc⟩
      obtain ⟨v, hv, hle2⟩ := ok.cpl _ _ hl
      exact fin (s, v) hv (by unfold costW; rw [if_pos rfl]; dsimp only; omega)
    · have ewy : w = y := by omega
      subst ewy
      cases k with
      | zero =>
        have : x = w := hc
        omega
      | succ k =>
        obtain ⟨t, ht⟩ := cov_snoc k x hc
        obtain ⟨v, hv, hle2⟩ := ok.cpl _ _ ht
        refine fin (t, v) hv ?_
        unfold costW
        dsimp only
        split <;> omega
theorem layJ_end {e : Int} {L : Layer} (ok : LayJ sd n x e L) (hx : x < e) : (L = [] → ∀ m, ¬ CovW sd n e m x) ∧ (L ≠ [] → ∃ c : Nat, minO (L.map (·.2)) = (c : Int) ∧ CovW sd n e (c + 1) x ∧ ∀ m, CovW sd n e m x → c + 1 ≤ m) := by
  constructor
  · rintro rfl m h
    cases m with
    | zero => have : x = e := h; omega
    | succ m =>
      obtain ⟨s, hs⟩ := cov_snoc m x h
      obtain ⟨v, hv, _⟩ := ok.cpl _ _ hs
      exact absurd hv List.not_mem_nil
  · intro hL
    obtain ⟨h1, h2⟩ := minO_spec (xs := L.map (·.2)) (by simpa using hL)
    obtain ⟨p, hp, ep⟩ := List.mem_map.mp h1
    obtain ⟨p1, p2⟩ := ok.snd p hp
    refine ⟨p.2.toNat, by rw [← ep]; omega, last_cov p2, fun m hm => ?_⟩
    cases m with
    | zero => have : x = e := hm; omega
    | succ m =>
      obtain ⟨s, hs⟩ := cov_snoc m x hm
      obtain ⟨v, hv, hle⟩ := ok.cpl _ _ hs
      have := h2 v (List.mem_map.mpr ⟨(s, v), hv, rfl⟩)
      omega
end
end Z
set_option Elab.async false
set_option linter.all false
set_option maxRecDepth 100000
namespace Z
open PySem PySem.Spec L2
open PyProof.Rows hiding St
def fJ (k : Nat) (L : Layer) (s : Int) : List Int := if k = 0 then [0] else L.map (costW s)
theorem q_neNilJ {ns : List Int} {P : PV → Prop} (h : P (.bl (!decide (ns = [])))) : rEqP true (.lst (ns.map .int)) (.lst []) P := by
  refine ⟨.list (ns.map PyData.int), .list [], by rw [toD, toDs_intsA]; rfl, rfl, shaped_ints ns, shaped_ints [], ?_⟩
  rw [if_pos rfl]
  cases ns with
  | nil => exact h
  | cons n ns =>
    have e : PyData.eqv (.list ((n :: ns).map PyData.int)) (.list []) = false := by
      rw [List.map_cons, PyData.eqv]
      simp [PyData.eqvAll]
    rw [e]; exact h
section
variable {K : PySem.W.Frag} {C : Addr} {args : List PV} {P : PV → Prop} {PF : List PV → Prop} {PR : PV → Ow → Prop} {o : Ow}
theorem rd_law_fewest (h : sp_law_fewest K C args P) : ts_law_fewest K C { nx := fun _ => P .non, rt := fun x _ => P x } (startP 14 args) := by
  obtain ⟨n, sd, x, e, rfl, ok, x0, xe, e20, hp⟩ := h
  have e0 : startP 14 [.int n, rowsP (sd.map (·.1)), planS sd, .int x, .int e] = [.va (.int n), .va (rowsP (sd.map (·.1))), .va (planS sd), .va (.int x), .va (.int e), .no, .no, .no, .no, .no, .no, .no, .no, .no] := rfl
  rw [e0]
  have sz : 1000 < sizeLine := by decide
  have hw := ok.w
  have n1 := ok.n1
  have n2 := ok.n2
  have hl : sd.length ≤ 24 := by have := ok.w.len; rw [List.length_map] at this; exact this
  have nm : (sd.map fun x => x.1.1).Nodup := by
    have := asc_nodup ok.w
    rw [List.map_map] at this; exact this
  refine w_seq (w_asg (w_tup (w_cons (w_call (w_cons (w_var (x := planS sd) rfl (w_nil ⟨sd, rfl, nm, hl, ?_⟩)))))))
  refine w_cons (w_dic0' (w_nil ⟨sz2, w_gpS ?_⟩))
  simp only [List.set_cons_zero, List.set_cons_succ]
  refine w_seq (w_for (w_rngS (w_var (x := .int x) rfl (w_var (x := .int e) rfl ?_))))
  refine ⟨by omega, by omega, by omega, by omega, ?_⟩
  show ∃ Inv : Nat → EP' → Prop, _
  refine ⟨fun k η => ∃ (L : Layer) (s7 s8 s9 s10 s11 s12 s13 : Sl), (k = 0 → L = []) ∧ (1 ≤ k → LayJ sd n x (x + (k : Int)) L) ∧ (L.map (·.1)).Nodup ∧ L.length ≤ 20 ∧ η = [.va (.int n), .va (rowsP (sd.map (·.1))), .va (planS sd), .va (.int x), .va (.int e), .va (.dic (dicS sd)), .va (.dic (layD L)), s7, s8, s9, s10, s11, s12, s13], ⟨[], _, _, _, _, _, _, _, fun _ => rfl, fun z => absurd z (by decide), List.nodup_nil, Nat.zero_le _, rfl⟩, ?_, ?_⟩
  · rintro k y η hk ⟨L, s7, s8, s9, s10, s11, s12, s13, hL0, hL1, nd, lL, rfl⟩
    obtain ⟨hkn, rfl⟩ := rangeP_get hk
    generalize hpp : x + (k : Int) = p at hL1 ⊢
    refine w_gname ?_
    simp only [List.set_cons_zero, List.set_cons_succ]
    refine w_seq (w_set (w_val (w_lc (w_itup (w_var (x := rowsP (sd.map (·.1))) rfl ?_)))))
    show ∃ Inv : Nat → List PV → EP' → Prop, _
    refine ⟨fun i acc η => acc = (((sd.take i).filter fun z => passes p z.1).map (·.2)).map .int ∧ ∃ s12, η = [.va (.int n), .va (rowsP (sd.map (·.1))), .va (planS sd), .va (.int x), .va (.int e), .va (.dic (dicS sd)), .va (.dic (layD L)), .va (.int p), s8, s9, s10, s11, s12, s13], ⟨rfl, _, rfl⟩, ?_, ?_⟩
    · rintro i y acc η hi ⟨rfl, s12, rfl⟩
      rw [List.getElem?_map, List.getElem?_map] at hi
      obtain ⟨r, hr, rfl⟩ := Option.map_eq_some_iff.mp hi
      obtain ⟨z, hz, rfl⟩ := Option.map_eq_some_iff.mp hr
      have fl : (((sd.take i).filter fun z => passes p z.1).map (·.2)).length ≤ 24 := by
        rw [List.length_map]
        have := List.length_filter_le (fun z => passes p z.1) (sd.take i)
        rw [List.length_take] at this
        omega
      refine w_gname (w_bl (w_chain (w_op (w_var (x := rowP z.1) rfl (w_con (q_ixT (x := .int z.1.2.1) rfl (w_var (x := .int p) rfl (q_le ⟨_, rfl, ?_⟩))))))))
      refine q_ite (fun a1 => w_op (w_var (x := rowP z.1) rfl (w_con (q_ixT (x := .int z.1.2.2) rfl (q_lt (q_ite (fun a2 => ?_) fun a2 => ?_)))))) fun a1 => q_iteF ?_
      · have pp : passes p z.1 = true := by unfold passes; rw [decide_eq_true a1, decide_eq_true a2]; rfl
        refine w_dgetV rfl (w_op (w_var (x := rowP z.1) rfl (w_con (q_ixT (x := .str z.1.1) rfl ⟨_, _, rfl, val_some nm (List.mem_of_getElem? hz), ?_, ?_, _, rfl⟩))))
        · rw [List.length_map]; omega
        · rw [take_filterT hz pp, List.map_append, List.map_append]; rfl
      · have pp : passes p z.1 = false := by unfold passes; rw [decide_eq_true a1, decide_eq_false a2]; rfl
        exact ⟨by rw [take_filterF hz pp], _, rfl⟩
      · have pp : passes p z.1 = false := by unfold passes; rw [decide_eq_false a1]; rfl
        exact ⟨by rw [take_filterF hz pp], _, rfl⟩
    rintro acc η ⟨rfl, s12, rfl⟩
    rw [List.length_map, List.length_map, List.take_length]
    generalize hT : (sd.filter fun z => passes p z.1).map (·.2) = T
    simp only [List.set_cons_zero, List.set_cons_succ]
    refine w_seq (w_setFD (by decide) (w_dicF ⟨by show 9 < 14; decide, ?_⟩))
    simp only [List.set_cons_zero, List.set_cons_succ]
    refine w_seq (w_for (w_lstP (w_val (w_lc (w_rngS (w_con (w_op (w_var (x := .int n) rfl (w_con (q_add ?_)))))))))) 
    refine ⟨by decide, by decide, by omega, by omega, ?_⟩
    rw [show (n + 1 - 1).toNat = n.toNat by omega]
    show ∃ Inv : Nat → List PV → EP' → Prop, _
    refine ⟨fun i acc η => acc = (((upto n).take i).filter fun s => decide (s ∉ T)).map .int ∧ ∃ s10, η = [.va (.int n), .va (rowsP (sd.map (·.1))), .va (planS sd), .va (.int x), .va (.int e), .va (.dic (dicS sd)), .va (.dic (layD L)), .va (.int p), .va (.lst (T.map .int)), .ow (.d []), s10, s11, s12, s13], ⟨rfl, _, rfl⟩, ?_, ?_⟩
    · rintro i y acc η hi ⟨rfl, s10, rfl⟩
      obtain ⟨hin, rfl⟩ := rangeP_get hi
      have ha := upto_atJ hin
      refine w_gname (w_bl (w_op (w_var (x := .int (1 + (i : Int))) rfl (w_var (x := .lst (T.map .int)) rfl (q_notInI ?_)))))
      by_cases c : 1 + (i : Int) ∈ T
      · rw [decide_eq_true c]
        refine q_iteF ⟨?_, _, rfl⟩
        rw [take_filterF ha (decide_eq_false fun z => z c)]
      · rw [decide_eq_false c]
        refine q_iteT (w_var (x := .int (1 + (i : Int))) rfl ⟨?_, ?_, _, rfl⟩)
        · rw [List.length_map]
          have := List.length_filter_le (fun s => decide (s ∉ T)) ((upto n).take i)
          rw [List.length_take] at this
          omega
        · rw [take_filterT ha (decide_eq_true c), List.map_append]; rfl
    rintro acc η ⟨rfl, s10, rfl⟩
    rw [rangeP_len, ← upto_lenJ, List.take_length]
    have hS : ((upto n).filter fun s => decide (s ∉ T)) = freeS sd n p := by unfold freeS; rw [hT]
    rw [hS]
    have Snd : (freeS sd n p).Nodup := by
      unfold freeS upto
      refine List.Nodup.sublist (List.filter_sublist) ?_
      rw [List.nodup_iff_pairwise_ne, List.pairwise_map]
      exact List.nodup_range.imp fun {a b} h q => h (by omega)
    have Sl : (freeS sd n p).length ≤ 20 := by
      have := List.length_filter_le (fun s => decide (s ∉ (sd.filter fun z => passes p z.1).map (·.2))) (upto n)
      rw [upto_lenJ] at this
      unfold freeS
      omega
    have nextL : LayJ sd n x (p + 1) (nowJ (fJ k L) (freeS sd n p)) := by
      by_cases k0 : k = 0
      · subst k0
        have : p = x := by omega
        rw [this]; exact layJ_first
      · have : fJ k L = fun s => L.map (costW s) := funext fun s => if_neg k0
        rw [this]
        exact layJ_next hw (hL1 (by omega)) (by omega)
    generalize freeS sd n p = S at Snd Sl nextL ⊢
    show ∃ Inv : Nat → EP' → Prop, _
    refine ⟨fun j η => ∃ s10 s11, η = [.va (.int n), .va (rowsP (sd.map (·.1))), .va (planS sd), .va (.int x), .va (.int e), .va (.dic (dicS sd)), .va (.dic (layD L)), .va (.int p), .va (.lst (T.map .int)), .ow (.d (layD (nowJ (fJ k L) (S.take j)))), s10, s11, s12, s13], ⟨_, _, rfl⟩, ?_, ?_⟩
    · rintro j y η hj ⟨s10, s11, rfl⟩
      rw [List.getElem?_map] at hj
      obtain ⟨s, hs, rfl⟩ := Option.map_eq_some_iff.mp hj
      have hjl := (List.getElem?_eq_some_iff.mp hs).1
      have et : S.take (j + 1) = S.take j ++ [s] := by rw [List.take_succ, hs]; rfl
      have fr : s ∉ (nowJ (fJ k L) (S.take j)).map (·.1) := fun z => by
        have h1 := nowJ_keys.subset z
        have h2 : (S.take j ++ [s]).Nodup := by rw [← et]; exact Snd.sublist (List.take_sublist _ _)
        rw [List.nodup_append] at h2
        exact h2.2.2 s h1 s (by simp) rfl
      have dl : (layD (nowJ (fJ k L) (S.take j))).length ≤ 20 := by
        unfold layD
        rw [List.length_map]
        have := (nowJ_keys (f := fJ k L) (S := S.take j)).length_le
        rw [List.length_map, List.length_take] at this
        omega
      dsimp only
      rw [et, now_snoc]
      generalize nowJ (fJ k L) (S.take j) = M at fr dl ⊢
      have cont : ∀ ns, ns = fJ k L s → tIfSP (tBlP (tOpP (rEqP true) (tVarP 11) (tLstP (tNilP)))) (tDPutP 9 (tVarP 10) (tCBP rMinL (tConsP (tVarP 11) (tNilP)))) (tNextP)
          { nx := fun η => ∃ s10 s11, η = [.va (.int n), .va (rowsP (sd.map (·.1))), .va (planS sd), .va (.int x), .va (.int e), .va (.dic (dicS sd)), .va (.dic (layD L)), .va (.int p), .va (.lst (T.map .int)), .ow (.d (layD (M ++ if fJ k L s = [] then [] else [(s, minO (fJ k L s))]))), s10, s11, s12, s13], rt := fun x _ => P x }
          [.va (.int n), .va (rowsP (sd.map (·.1))), .va (planS sd), .va (.int x), .va (.int e), .va (.dic (dicS sd)), .va (.dic (layD L)), .va (.int p), .va (.lst (T.map .int)), .ow (.d (layD M)), .va (.int s), .va (.lst (ns.map .int)), s12, s13] := fun ns hns => by
        rw [← hns]
        refine w_if (w_bl (w_op (w_var (x := .lst (ns.map .int)) rfl (w_lst (w_nil ⟨by show 0 ≤ sizeLine; omega, q_neNilJ ?_⟩)))))
        by_cases c : ns = []
        · rw [decide_eq_true c, if_pos c, List.append_nil]
          exact q_iteF (w_next ⟨_, _, rfl⟩)
        · rw [decide_eq_false c, if_neg c]
          refine q_iteT (w_dput (w_cb (w_cons (w_var (x := .lst (ns.map .int)) rfl (w_nil (q_minO c ⟨⟨_, rfl⟩, w_var (x := .int s) rfl (q_putM (k := .inl s) rfl rfl (by omega) ?_)⟩))))))
          rw [put_fresh fr]
          simp only [List.set_cons_zero, List.set_cons_succ]
          exact ⟨_, _, rfl⟩
      refine w_gname ?_
      simp only [List.set_cons_zero, List.set_cons_succ]
      refine w_seq (w_set (w_ife (w_bl (w_op (w_var (x := .int p) rfl (w_var (x := .int x) rfl (q_gt ?_)))))))
      by_cases k0 : k = 0
      · rw [decide_eq_false (show ¬ x < p by omega)]
        refine q_iteF (w_lst (w_cons (w_con (w_nil ⟨sz1, ?_⟩))))
        simp only [List.set_cons_zero, List.set_cons_succ]
        exact cont [0] (by unfold fJ; rw [if_pos k0])
      · rw [decide_eq_true (show x < p by omega)]
        refine q_iteT (w_val (w_dcomp (kvs := layD L) (q := s) (by decide) (by decide) (by show 13 < 14; decide) rfl rfl (by unfold layD; rw [List.length_map]; omega) (lay_vals nd) ?_))
        rw [dcomp_cost nd]
        simp only [List.set_cons_zero, List.set_cons_succ]
        exact cont (L.map (costW s)) (by unfold fJ; rw [if_neg k0])
    · rintro η ⟨s10, s11, rfl⟩
      rw [List.length_map, List.take_length]
      dsimp only
      refine w_set (w_varO (o := .d (layD (nowJ (fJ k L) S))) rfl ?_)
      simp only [List.set_cons_zero, List.set_cons_succ]
      refine ⟨nowJ (fJ k L) S, _, _, _, _, _, _, _, fun z => absurd z (Nat.succ_ne_zero _), fun _ => ?_, Snd.sublist nowJ_keys, ?_, rfl⟩
      · rw [show x + ((k + 1 : Nat) : Int) = p + 1 by omega]; exact nextL
      · have := (nowJ_keys (f := fJ k L) (S := S)).length_le
        rw [List.length_map] at this
        omega
  · rintro η ⟨L, s7, s8, s9, s10, s11, s12, s13, hL0, hL1, nd, lL, rfl⟩
    rw [rangeP_len] at hL0 hL1
    have lay : LayJ sd n x e L := by
      have := hL1 (by omega)
      rw [show x + ((e - x).toNat : Int) = e by omega] at this
      exact this
    obtain ⟨f1, f2⟩ := layJ_end lay xe
    dsimp only
    refine w_ret (w_ife (w_bl (w_op (w_var (x := .dic (layD L)) rfl (w_dic0' (q_neD0 (kvs := layD L) ?_))))))
    cases L with
    | nil => exact q_iteF (w_con (hp .non (.inl ⟨rfl, f1 rfl⟩)))
    | cons l0 L =>
      obtain ⟨c, c1, c2, c3⟩ := f2 (by simp)
      refine q_iteT (w_cb (w_cons (w_val (w_dcomp (kvs := layD (l0 :: L)) (q := x) (by decide) (by decide) (by show 10 < 14; decide) rfl rfl (by unfold layD; rw [List.length_map]; omega) (lay_vals nd) ?_))))
      rw [dcomp_all nd]
      refine w_nil (q_minO (by simp) ?_)
      rw [c1]
      exact hp _ (.inr ⟨c, rfl, c2, c3⟩)
end
end Z
set_option Elab.async false
set_option linter.all false
set_option maxRecDepth 100000
namespace Z
open PySem PySem.Spec L2
open PyProof.Rows hiding St
def rowLP (ls : List Leg) : PV := .tup (ls.map legP)
def rowQP (ps : List (Int × Int)) : PV := .tup (ps.map prP)
section
variable {K : PySem.W.Frag} {C : Addr} {args : List PV} {P : PV → Prop} {PF : List PV → Prop} {PR : PV → Ow → Prop} {o : Ow}
theorem rd_law_parts (h : sp_law_parts K C args P) : ts_law_parts K C { nx := fun _ => P .non, rt := fun x _ => P x } (startP 10 args) := by
  obtain ⟨n, x, e, rfl, n1, n3, x0, xe, e4, e20, hp⟩ := h
  have e0 : startP 10 [.int n, .int x, .int e] = [.va (.int n), .va (.int x), .va (.int e), .no, .no, .no, .no, .no, .no, .no] := rfl
  rw [e0]
  have sz : 3000 < sizeLine := by decide
  refine w_seq (w_set (w_val (w_lc (w_rngS (w_con (w_op (w_var (x := .int n) rfl (w_con (q_add ?_)))))))))
  refine ⟨by decide, by decide, by omega, by omega, ?_⟩
  rw [show (n + 1 - 1).toNat = n.toNat by omega]
  show ∃ Inv : Nat → List PV → EP' → Prop, _
  refine ⟨fun i acc η => ∃ s5, acc = ((List.range i).map fun j : Nat => [((1 + (j : Int), x, e) : Leg)]).map rowLP ∧ η = [.va (.int n), .va (.int x), .va (.int e), .no, .no, s5, .no, .no, .no, .no], ⟨_, rfl, rfl⟩, ?_, ?_⟩
  · rintro i y acc η hi ⟨s5, rfl, rfl⟩
    obtain ⟨hin, rfl⟩ := rangeP_get hi
    refine w_gname (w_yes (q_iteT (w_tup (w_cons (w_tup (w_cons (w_var (x := .int (1 + (i : Int))) rfl (w_cons (w_var (x := .int x) rfl (w_cons (w_var (x := .int e) rfl (w_nil ⟨sz3, w_nil ⟨sz1, ?_, _, ?_, rfl⟩⟩))))))))))))
    · rw [List.length_map, List.length_map, List.length_range]; omega
    · rw [List.range_succ, List.map_append, List.map_append]; rfl
  rintro acc η ⟨s5, rfl, rfl⟩
  rw [rangeP_len]
  simp only [List.set_cons_zero, List.set_cons_succ]
  -- what is known of the rows
  have base : ((List.range n.toNat).map fun j : Nat => [((1 + (j : Int), x, e) : Leg)]).length ≤ 3 ∧ (∀ ls ∈ (List.range n.toNat).map fun j : Nat => [((1 + (j : Int), x, e) : Leg)], ls.length ≤ 3) ∧ ∀ s, 1 ≤ s → s ≤ n → [((s, x, e) : Leg)] ∈ (List.range n.toNat).map fun j : Nat => [((1 + (j : Int), x, e) : Leg)] := by
    refine ⟨by rw [List.length_map, List.length_range]; omega, fun ls hls => ?_, fun s s1 s2 => ?_⟩
    · obtain ⟨j, _, rfl⟩ := List.mem_map.mp hls
      show 1 ≤ 3; omega
    · refine List.mem_map.mpr ⟨(s - 1).toNat, List.mem_range.mpr (by omega), ?_⟩
      rw [show (1 : Int) + ((s - 1).toNat : Int) = s by omega]
  generalize ((List.range n.toNat).map fun j : Nat => [((1 + (j : Int), x, e) : Leg)]) = rows0 at base ⊢
  obtain ⟨b1, b2, b3⟩ := base
  refine w_seq (w_for (w_rngS (w_op (w_var (x := .int x) rfl (w_con (q_add (w_var (x := .int e) rfl ?_)))))))
  refine ⟨by omega, by omega, by omega, by omega, ?_⟩
  show ∃ Inv : Nat → EP' → Prop, _
  refine ⟨fun k η => ∃ (rows : List (List Leg)) (s4 s5 s6 s7 s8 s9 : Sl), rows.length ≤ 3 + 40 * k ∧ (∀ ls ∈ rows, ls.length ≤ 3) ∧ (∀ s, 1 ≤ s → s ≤ n → [((s, x, e) : Leg)] ∈ rows) ∧ (∀ m s t, x < m → m < x + 1 + (k : Int) → 1 ≤ s → s ≤ n → 1 ≤ t → t ≤ n → [((s, x, m) : Leg), (t, m, e)] ∈ rows) ∧ η = [.va (.int n), .va (.int x), .va (.int e), .va (.lst (rows.map rowLP)), s4, s5, s6, s7, s8, s9], ⟨rows0, _, _, _, _, _, _, by omega, b2, b3, fun m s t h1 h2 => by omega, rfl⟩, ?_, ?_⟩
  · rintro k y η hk ⟨rows, s4, s5, s6, s7, s8, s9, r1, r2, r3, r4, rfl⟩
    obtain ⟨hkn, rfl⟩ := rangeP_get hk
    have k3 : k ≤ 2 := by omega
    generalize hmm : x + 1 + (k : Int) = mid at r4 ⊢
    refine w_gname ?_
    simp only [List.set_cons_zero, List.set_cons_succ]
    refine w_seq (w_for (w_rngS (w_con (w_op (w_var (x := .int n) rfl (w_con (q_add ?_)))))))
    refine ⟨by decide, by decide, by omega, by omega, ?_⟩
    rw [show (n + 1 - 1).toNat = n.toNat by omega]
    show ∃ Inv : Nat → EP' → Prop, _
    refine ⟨fun j η => ∃ (rs2 : List (List Leg)) (s5 s8 : Sl), rs2.length ≤ 3 + 40 * k + 3 * j ∧ (∀ ls ∈ rs2, ls.length ≤ 3) ∧ (∀ ls ∈ rows, ls ∈ rs2) ∧ (∀ s t, 1 ≤ s → s ≤ (j : Int) → 1 ≤ t → t ≤ n → [((s, x, mid) : Leg), (t, mid, e)] ∈ rs2) ∧ η = [.va (.int n), .va (.int x), .va (.int e), .va (.lst (rs2.map rowLP)), .va (.int mid), s5, s6, s7, s8, s9], ⟨rows, _, _, by omega, r2, fun _ z => z, fun s t h1 h2 => by omega, rfl⟩, ?_, ?_⟩
    · rintro j y η hj ⟨rs2, s5, s8, q1, q2, q3, q4, rfl⟩
      obtain ⟨hjn, rfl⟩ := rangeP_get hj
      refine w_gname ?_
      simp only [List.set_cons_zero, List.set_cons_succ]
      refine w_set (w_op (w_var (x := .lst (rs2.map rowLP)) rfl (w_val (w_lc (w_rngS (w_con (w_op (w_var (x := .int n) rfl (w_con (q_add ?_)))))))))) 
      refine ⟨by decide, by decide, by omega, by omega, ?_⟩
      rw [show (n + 1 - 1).toNat = n.toNat by omega]
      show ∃ Inv : Nat → List PV → EP' → Prop, _
      refine ⟨fun i acc η => ∃ s8, acc = ((List.range i).map fun t : Nat => [((1 + (j : Int), x, mid) : Leg), (1 + (t : Int), mid, e)]).map rowLP ∧ η = [.va (.int n), .va (.int x), .va (.int e), .va (.lst (rs2.map rowLP)), .va (.int mid), .va (.int (1 + (j : Int))), s6, s7, s8, s9], ⟨_, rfl, rfl⟩, ?_, ?_⟩
      · rintro i y acc η hi ⟨s8, rfl, rfl⟩
        obtain ⟨hin, rfl⟩ := rangeP_get hi
        refine w_gname (w_yes (q_iteT (w_tup (w_cons (w_tup (w_cons (w_var (x := .int (1 + (j : Int))) rfl (w_cons (w_var (x := .int x) rfl (w_cons (w_var (x := .int mid) rfl (w_nil ⟨sz3, ?_⟩))))))))))))
        refine w_cons (w_tup (w_cons (w_var (x := .int (1 + (i : Int))) rfl (w_cons (w_var (x := .int mid) rfl (w_cons (w_var (x := .int e) rfl (w_nil ⟨sz3, w_nil ⟨sz2, ?_, _, ?_, rfl⟩⟩))))))))
        · rw [List.length_map, List.length_map, List.length_range]; omega
        · rw [List.range_succ, List.map_append, List.map_append]; rfl
      rintro acc η ⟨s8, rfl, rfl⟩
      rw [rangeP_len]
      refine q_addLL (by rw [List.length_map, List.length_map, List.length_map, List.length_range]; omega) ?_
      simp only [List.set_cons_zero, List.set_cons_succ]
      refine ⟨rs2 ++ (List.range n.toNat).map fun t : Nat => [((1 + (j : Int), x, mid) : Leg), (1 + (t : Int), mid, e)], _, s8, ?_, fun ls hls => ?_, fun ls hls => List.mem_append_left _ (q3 ls hls), fun s t h1 h2 h3 h4 => ?_, by rw [List.map_append]⟩
      · rw [List.length_append, List.length_map, List.length_range]; omega
      · rcases List.mem_append.mp hls with h | h
        · exact q2 ls h
        · obtain ⟨t, _, rfl⟩ := List.mem_map.mp h
          show 2 ≤ 3; omega
      · by_cases c : s ≤ (j : Int)
        · exact List.mem_append_left _ (q4 s t h1 c h3 h4)
        · refine List.mem_append_right _ (List.mem_map.mpr ⟨(t - 1).toNat, List.mem_range.mpr (by omega), ?_⟩)
          rw [show (1 : Int) + ((t - 1).toNat : Int) = t by omega, show (1 : Int) + (j : Int) = s by omega]
    · rintro η ⟨rs2, s5, s8, q1, q2, q3, q4, rfl⟩
      rw [rangeP_len] at q1 q4
      dsimp only
      refine w_for (w_rngS (w_op (w_var (x := .int mid) rfl (w_con (q_add (w_var (x := .int e) rfl ?_))))))
      refine ⟨by omega, by omega, by omega, by omega, ?_⟩
      show ∃ Inv : Nat → EP' → Prop, _
      refine ⟨fun j η => ∃ (rs3 : List (List Leg)) (s6 s7 s9 : Sl), rs3.length ≤ 3 + 40 * k + 9 + 5 * j ∧ (∀ ls ∈ rs3, ls.length ≤ 3) ∧ (∀ ls ∈ rs2, ls ∈ rs3) ∧ η = [.va (.int n), .va (.int x), .va (.int e), .va (.lst (rs3.map rowLP)), .va (.int mid), s5, s6, s7, s8, s9], ⟨rs2, _, _, _, by omega, q2, fun _ z => z, rfl⟩, ?_, ?_⟩
      · rintro j y η hj ⟨rs3, s6, s7, s9, p1, p2, p3, rfl⟩
        obtain ⟨hjn, rfl⟩ := rangeP_get hj
        generalize mid + 1 + (j : Int) = more
        refine w_gname ?_
        simp only [List.set_cons_zero, List.set_cons_succ]
        refine w_seq (w_set (w_lst (w_cons (w_tup (w_cons (w_con (w_cons (w_con (w_cons (w_con (w_nil ⟨sz3, ?_⟩)))))))))))
        refine w_cons (w_tup (w_cons (w_con (w_cons (w_con (w_cons (w_con (w_nil ⟨sz3, ?_⟩))))))))
        refine w_cons (w_tup (w_cons (w_con (w_cons (w_con (w_cons (w_con (w_nil ⟨sz3, ?_⟩))))))))
        refine w_cons (w_tup (w_cons (w_con (w_cons (w_con (w_cons (w_con (w_nil ⟨sz3, ?_⟩))))))))
        refine w_cons (w_tup (w_cons (w_con (w_cons (w_con (w_cons (w_con (w_nil ⟨sz3, w_nil ⟨by show 5 ≤ sizeLine; omega, ?_⟩⟩))))))))
        simp only [List.set_cons_zero, List.set_cons_succ]
        have e5 : [PV.tup [.int 1, .int 2, .int 1], .tup [.int 2, .int 1, .int 2], .tup [.int 1, .int 2, .int 3], .tup [.int 3, .int 1, .int 2], .tup [.int 2, .int 3, .int 1]] = ([(1, 2, 1), (2, 1, 2), (1, 2, 3), (3, 1, 2), (2, 3, 1)] : List Leg).map legP := rfl
        rw [e5]
        have l5 : ([(1, 2, 1), (2, 1, 2), (1, 2, 3), (3, 1, 2), (2, 3, 1)] : List Leg).length = 5 := rfl
        generalize ([(1, 2, 1), (2, 1, 2), (1, 2, 3), (3, 1, 2), (2, 3, 1)] : List Leg) = T at l5 ⊢
        refine w_set (w_op (w_var (x := .lst (rs3.map rowLP)) rfl (w_val (w_lc (w_lstP (w_var (x := .lst (T.map legP)) rfl ?_))))))
        show ∃ Inv : Nat → List PV → EP' → Prop, _
        refine ⟨fun i acc η => ∃ s9, acc = ((T.take i).map fun r : Leg => [((r.1, x, mid) : Leg), (r.2.1, mid, more), (r.2.2, more, e)]).map rowLP ∧ η = [.va (.int n), .va (.int x), .va (.int e), .va (.lst (rs3.map rowLP)), .va (.int mid), s5, .va (.int more), .va (.lst (T.map legP)), s8, s9], ⟨_, rfl, rfl⟩, ?_, ?_⟩
        · rintro i y acc η hi ⟨s9, rfl, rfl⟩
          rw [List.getElem?_map] at hi
          obtain ⟨r, hr, rfl⟩ := Option.map_eq_some_iff.mp hi
          refine w_gname (w_yes (q_iteT (w_tup (w_cons (w_tup (w_cons (w_op (w_var (x := legP r) rfl (w_con (q_ixT (x := .int r.1) rfl ?_))))))))))
          refine w_cons (w_var (x := .int x) rfl (w_cons (w_var (x := .int mid) rfl (w_nil ⟨sz3, ?_⟩))))
          refine w_cons (w_tup (w_cons (w_op (w_var (x := legP r) rfl (w_con (q_ixT (x := .int r.2.1) rfl ?_))))))
          refine w_cons (w_var (x := .int mid) rfl (w_cons (w_var (x := .int more) rfl (w_nil ⟨sz3, ?_⟩))))
          refine w_cons (w_tup (w_cons (w_op (w_var (x := legP r) rfl (w_con (q_ixT (x := .int r.2.2) rfl ?_))))))
          refine w_cons (w_var (x := .int more) rfl (w_cons (w_var (x := .int e) rfl (w_nil ⟨sz3, w_nil ⟨sz3, ?_, _, ?_, rfl⟩⟩))))
          · rw [List.length_map, List.length_map, List.length_take]; omega
          · rw [take_map hr, List.map_append]; rfl
        rintro acc η ⟨s9, rfl, rfl⟩
        rw [List.length_map, List.take_length]
        refine q_addLL (by rw [List.length_map, List.length_map, List.length_map]; omega) ?_
        simp only [List.set_cons_zero, List.set_cons_succ]
        refine ⟨rs3 ++ T.map fun r : Leg => [((r.1, x, mid) : Leg), (r.2.1, mid, more), (r.2.2, more, e)], _, _, _, ?_, fun ls hls => ?_, fun ls hls => List.mem_append_left _ (p3 ls hls), by rw [List.map_append]⟩
        · rw [List.length_append, List.length_map]; omega
        · rcases List.mem_append.mp hls with h | h
          · exact p2 ls h
          · obtain ⟨r, _, rfl⟩ := List.mem_map.mp h
            exact Nat.le_refl 3
      · rintro η ⟨rs3, s6, s7, s9, p1, p2, p3, rfl⟩
        rw [rangeP_len] at p1
        dsimp only
        refine ⟨rs3, _, _, _, _, _, _, by omega, p2, fun s s1 s2 => p3 _ (q3 _ (r3 s s1 s2)), fun m s t h1 h2 h3 h4 h5 h6 => ?_, rfl⟩
        by_cases c : m < mid
        · exact p3 _ (q3 _ (r4 m s t h1 c h3 h4 h5 h6))
        · have : m = mid := by omega
          rw [this]
          exact p3 _ (q4 s t h3 (by omega) h5 h6)
  · rintro η ⟨rows, s4, s5, s6, s7, s8, s9, r1, r2, r3, r4, rfl⟩
    rw [rangeP_len] at r1 r4
    dsimp only
    exact w_ret (w_var (x := .lst (rows.map rowLP)) rfl (hp rows (by omega) r2 r3 fun m s t h1 h2 => r4 m s t h1 (by omega)))
end
end Z
set_option Elab.async false
set_option linter.all false
set_option maxRecDepth 100000
namespace Z
open PySem PySem.Spec L2
open PyProof.Rows hiding St
section
variable {K : PySem.W.Frag} {C : Addr} {args : List PV} {P : PV → Prop} {PF : List PV → Prop} {PR : PV → Ow → Prop} {o : Ow}
theorem rd_law_pairs (h : sp_law_pairs K C args P) : ts_law_pairs K C { nx := fun _ => P .non, rt := fun x _ => P x } (startP 8 args) := by
  obtain ⟨x, e, rfl, x0, xe, e4, e20, hp⟩ := h
  have e0 : startP 8 [.int x, .int e] = [.va (.int x), .va (.int e), .no, .no, .no, .no, .no, .no] := rfl
  rw [e0]
  have sz : 3000 < sizeLine := by decide
  refine w_seq (w_set (w_lst (w_nil ⟨by show 0 ≤ sizeLine; omega, ?_⟩)))
  simp only [List.set_cons_zero, List.set_cons_succ]
  refine w_seq (w_for (w_rngS (w_var (x := .int x) rfl (w_var (x := .int e) rfl ?_))))
  refine ⟨by omega, by omega, by omega, by omega, ?_⟩
  show ∃ Inv : Nat → EP' → Prop, _
  refine ⟨fun k η => ∃ (ones : List (Int × Int)) (s3 s6 : Sl), ones.length ≤ 4 * k ∧ (1 ≤ k → (x, e) ∈ ones) ∧ η = [.va (.int x), .va (.int e), .va (.lst (ones.map prP)), s3, .no, .no, s6, .no], ⟨[], _, _, Nat.zero_le _, fun z => absurd z (by decide), rfl⟩, ?_, ?_⟩
  · rintro k y η hk ⟨ones, s3, s6, o1, o2, rfl⟩
    obtain ⟨hkn, rfl⟩ := rangeP_get hk
    generalize hbb : x + (k : Int) = b
    refine w_gname ?_
    simp only [List.set_cons_zero, List.set_cons_succ]
    refine w_set (w_op (w_var (x := .lst (ones.map prP)) rfl (w_val (w_lc (w_rngS (w_op (w_var (x := .int b) rfl (w_con (q_add (w_op (w_var (x := .int e) rfl (w_con (q_add ?_))))))))))))) 
    refine ⟨by omega, by omega, by omega, by omega, ?_⟩
    rw [show (e + 1 - (b + 1)).toNat = (e - b).toNat by omega]
    show ∃ Inv : Nat → List PV → EP' → Prop, _
    refine ⟨fun i acc η => ∃ s6, acc = ((List.range i).map fun j : Nat => ((b, b + 1 + (j : Int)) : Int × Int)).map prP ∧ η = [.va (.int x), .va (.int e), .va (.lst (ones.map prP)), .va (.int b), .no, .no, s6, .no], ⟨_, rfl, rfl⟩, ?_, ?_⟩
    · rintro i y acc η hi ⟨s6, rfl, rfl⟩
      obtain ⟨hin, rfl⟩ := rangeP_get hi
      refine w_gname (w_yes (q_iteT (w_tup (w_cons (w_var (x := .int b) rfl (w_cons (w_var (x := .int (b + 1 + (i : Int))) rfl (w_nil ⟨sz2, ?_, _, ?_, rfl⟩))))))))
      · rw [List.length_map, List.length_map, List.length_range]; omega
      · rw [List.range_succ, List.map_append, List.map_append]; rfl
    rintro acc η ⟨s6, rfl, rfl⟩
    rw [rangeP_len]
    refine q_addLL (by rw [List.length_map, List.length_map, List.length_map, List.length_range]; omega) ?_
    simp only [List.set_cons_zero, List.set_cons_succ]
    refine ⟨ones ++ (List.range (e - b).toNat).map fun j : Nat => ((b, b + 1 + (j : Int)) : Int × Int), _, _, ?_, fun _ => ?_, by rw [List.map_append]⟩
    · rw [List.length_append, List.length_map, List.length_range]; omega
    · by_cases k0 : k = 0
      · refine List.mem_append_right _ (List.mem_map.mpr ⟨(e - b).toNat - 1, List.mem_range.mpr (by omega), ?_⟩)
        rw [show b + 1 + (((e - b).toNat - 1 : Nat) : Int) = e by omega, show b = x by omega]
      · exact List.mem_append_left _ (o2 (by omega))
  rintro η ⟨ones, s3, s6, o1, o2, rfl⟩
  rw [rangeP_len] at o1 o2
  have o16 : ones.length ≤ 16 := by omega
  have oxe := o2 (by omega)
  dsimp only
  refine w_seq (w_set (w_op (w_lst (w_cons (w_tup (w_nil ⟨by show 0 ≤ sizeLine; omega, w_nil ⟨sz1, w_val (w_lc (w_lstP (w_var (x := .lst (ones.map prP)) rfl ?_)))⟩⟩))))))
  show ∃ Inv : Nat → List PV → EP' → Prop, _
  refine ⟨fun i acc η => ∃ s5, acc = ((ones.take i).map fun p => [p]).map rowQP ∧ η = [.va (.int x), .va (.int e), .va (.lst (ones.map prP)), s3, .no, s5, s6, .no], ⟨_, rfl, rfl⟩, ?_, ?_⟩
  · rintro i y acc η hi ⟨s5, rfl, rfl⟩
    rw [List.getElem?_map] at hi
    obtain ⟨p, hpi, rfl⟩ := Option.map_eq_some_iff.mp hi
    refine w_gname (w_yes (q_iteT (w_tup (w_cons (w_var (x := prP p) rfl (w_nil ⟨sz1, ?_, _, ?_, rfl⟩))))))
    · rw [List.length_map, List.length_map, List.length_take]; omega
    · rw [take_map hpi, List.map_append]; rfl
  rintro acc η ⟨s5, rfl, rfl⟩
  rw [List.length_map, List.take_length]
  refine q_addLL (by rw [List.length_map, List.length_map]; show 1 + ones.length ≤ _; omega) ?_
  have ef : [PV.tup []] ++ (ones.map fun p => [p]).map rowQP = ([] :: ones.map fun p => [p]).map rowQP := rfl
  rw [ef]
  have f1 : ([] :: ones.map fun p => [p]).length ≤ 17 := by rw [List.length_cons, List.length_map]; omega
  have f2 : ∀ ps ∈ [] :: ones.map fun p => [p], ps.length ≤ 2 := fun ps hps => by
    rcases List.mem_cons.mp hps with rfl | h
    · exact Nat.zero_le _
    · obtain ⟨p, _, rfl⟩ := List.mem_map.mp h
      show 1 ≤ 2; omega
  have f3 : [] ∈ [] :: ones.map fun p => [p] := List.mem_cons_self
  have f4 : [(x, e)] ∈ [] :: ones.map fun p => [p] := List.mem_cons_of_mem _ (List.mem_map.mpr ⟨_, oxe, rfl⟩)
  generalize ([] :: ones.map fun p => [p]) = R0 at f1 f2 f3 f4
  simp only [List.set_cons_zero, List.set_cons_succ]
  refine w_seq (w_for (w_lstP (w_var (x := .lst (ones.map prP)) rfl ?_)))
  show ∃ Inv : Nat → EP' → Prop, _
  refine ⟨fun k η => ∃ (rows : List (List (Int × Int))) (s5 s7 : Sl), rows.length ≤ 17 + 16 * k ∧ (∀ ps ∈ rows, ps.length ≤ 2) ∧ [] ∈ rows ∧ [(x, e)] ∈ rows ∧ η = [.va (.int x), .va (.int e), .va (.lst (ones.map prP)), s3, .va (.lst (rows.map rowQP)), s5, s6, s7], ⟨R0, _, _, by omega, f2, f3, f4, rfl⟩, ?_, ?_⟩
  · rintro k y η hk ⟨rows, s5, s7, g1, g2, g3, g4, rfl⟩
    have hkl := (List.getElem?_eq_some_iff.mp hk).1
    rw [List.length_map] at hkl
    rw [List.getElem?_map] at hk
    obtain ⟨p, hpk, rfl⟩ := Option.map_eq_some_iff.mp hk
    refine w_gname ?_
    simp only [List.set_cons_zero, List.set_cons_succ]
    refine w_set (w_op (w_var (x := .lst (rows.map rowQP)) rfl (w_val (w_lc (w_lstP (w_var (x := .lst (ones.map prP)) rfl ?_))))))
    show ∃ Inv : Nat → List PV → EP' → Prop, _
    refine ⟨fun i acc η => ∃ s7, acc = (((ones.take i).filter fun q => decide (p.1 < q.1 ∨ (q.1 = p.1 ∧ p.2 < q.2))).map fun q => [p, q]).map rowQP ∧ η = [.va (.int x), .va (.int e), .va (.lst (ones.map prP)), s3, .va (.lst (rows.map rowQP)), .va (prP p), s6, s7], ⟨_, rfl, rfl⟩, ?_, ?_⟩
    · rintro i y acc η hi ⟨s7, rfl, rfl⟩
      rw [List.getElem?_map] at hi
      obtain ⟨q, hq, rfl⟩ := Option.map_eq_some_iff.mp hi
      refine w_gname (w_bl (w_op (w_var (x := prP q) rfl (w_var (x := prP p) rfl ⟨q.1, q.2, p.1, p.2, rfl, rfl, ?_⟩))))
      cases c : decide (p.1 < q.1 ∨ (q.1 = p.1 ∧ p.2 < q.2)) with
      | false =>
        refine q_iteF ⟨_, ?_, rfl⟩
        rw [take_filterF hq c]
      | true =>
        refine q_iteT (w_tup (w_cons (w_var (x := prP p) rfl (w_cons (w_var (x := prP q) rfl (w_nil ⟨sz2, ?_, _, ?_, rfl⟩))))))
        · rw [List.length_map, List.length_map]
          have := List.length_filter_le (fun q => decide (p.1 < q.1 ∨ (q.1 = p.1 ∧ p.2 < q.2))) (ones.take i)
          rw [List.length_take] at this
          omega
        · rw [take_filterT hq c, List.map_append, List.map_append]; rfl
    rintro acc η ⟨s7, rfl, rfl⟩
    rw [List.length_map, List.take_length]
    have fl := List.length_filter_le (fun q => decide (p.1 < q.1 ∨ (q.1 = p.1 ∧ p.2 < q.2))) ones
    generalize ones.filter (fun q => decide (p.1 < q.1 ∨ (q.1 = p.1 ∧ p.2 < q.2))) = F at fl ⊢
    refine q_addLL (by rw [List.length_map, List.length_map, List.length_map]; omega) ?_
    simp only [List.set_cons_zero, List.set_cons_succ]
    refine ⟨rows ++ F.map fun q => [p, q], _, _, ?_, fun ps hps => ?_, List.mem_append_left _ g3, List.mem_append_left _ g4, by rw [List.map_append]⟩
    · rw [List.length_append, List.length_map]; omega
    · rcases List.mem_append.mp hps with h | h
      · exact g2 ps h
      · obtain ⟨q, _, rfl⟩ := List.mem_map.mp h
        exact Nat.le_refl 2
  · rintro η ⟨rows, s5, s7, g1, g2, g3, g4, rfl⟩
    rw [List.length_map] at g1
    dsimp only
    exact w_ret (w_var (x := .lst (rows.map rowQP)) rfl (hp rows (by omega) g2 g3 g4))
end
end Z
set_option Elab.async false
set_option linter.all false
set_option maxRecDepth 100000
namespace Z
open PySem PySem.Spec L2
open PyProof.Rows hiding St
/-! what the certificates say -/
section
variable {sd : List Seat} {n x e : Int}
theorem upto_nodupJ : (upto n).Nodup := by
  unfold upto
  rw [List.nodup_iff_pairwise_ne, List.pairwise_map]
  exact List.nodup_range.imp fun {a b} h q => h (by omega)
theorem full_iff {p : Int} (ok : SdOk n sd) : loadN (sd.map (·.1)) p = n ↔ ∀ s, 1 ≤ s → s ≤ n → ¬ freeW sd s p (p + 1) := by
  have n1 := ok.n1
  have ld : loadN (sd.map (·.1)) p = (((sd.filter fun z => passes p z.1).map (·.2)).length : Int) := by
    unfold loadN
    rw [List.filter_map, List.length_map, List.length_map]; rfl
  have nd : ((sd.filter fun z => passes p z.1).map (·.2)).Nodup := by
    rw [List.nodup_iff_pairwise_ne, List.pairwise_map]
    refine List.Pairwise.imp_of_mem (fun {a b} ha hb h => ?_) (ok.g.1.sublist List.filter_sublist)
    have pa := (List.mem_filter.mp ha).2
    have pb := (List.mem_filter.mp hb).2
    refine h ?_
    unfold passes at pa pb
    rw [Bool.and_eq_true, decide_eq_true_iff, decide_eq_true_iff] at pa pb
    unfold meetB
    rw [Bool.and_eq_true, decide_eq_true_iff, decide_eq_true_iff]
    omega
  have sub : ∀ s ∈ (sd.filter fun z => passes p z.1).map (·.2), s ∈ upto n := fun s hs => by
    obtain ⟨z, hz, rfl⟩ := List.mem_map.mp hs
    exact upto_memJ.mpr (ok.g.2 z (List.mem_filter.mp hz).1)
  rw [ld]
  constructor
  · intro h s s1 s2 hf
    have hs := meets_free.mpr hf
    have := List.Nodup.length_le_of_subset (l₁ := s :: (sd.filter fun z => passes p z.1).map (·.2)) (l₂ := upto n) (List.nodup_cons.mpr ⟨hs, nd⟩) fun t ht => by
      rcases List.mem_cons.mp ht with rfl | ht
      · exact upto_memJ.mpr ⟨s1, s2⟩
      · exact sub t ht
    rw [List.length_cons, upto_lenJ] at this
    omega
  · intro h
    have h1 := List.Nodup.length_le_of_subset nd sub
    have h2 := List.Nodup.length_le_of_subset (l₁ := upto n) (l₂ := (sd.filter fun z => passes p z.1).map (·.2)) upto_nodupJ fun s hs => Classical.byContradiction fun z => by
      obtain ⟨s1, s2⟩ := upto_memJ.mp hs
      exact h s s1 s2 (meets_free.mp z)
    rw [upto_lenJ] at h1 h2
    omega
theorem cov_at : ∀ (m : Nat) (x : Int), CovW sd n e m x → ∀ p, x ≤ p → p < e → ∃ s w y k, 1 ≤ s ∧ s ≤ n ∧ w ≤ p ∧ p < y ∧ y ≤ e ∧ freeW sd s w y ∧ CovW sd n e k y ∧ k + 1 ≤ m
  | 0, x, h, p, h1, h2 => by
    have : x = e := h
    omega
  | m + 1, x, ⟨s, y, s1, s2, xy, ye, hf, hc⟩, p, h1, h2 => by
    by_cases c : p < y
    · exact ⟨s, x, y, m, s1, s2, h1, c, ye, hf, hc, Nat.le_refl _⟩
    · obtain ⟨s', w, y', k, a1, a2, a3, a4, a5, a6, a7, a8⟩ := cov_at m y hc p (by omega) h2
      exact ⟨s', w, y', k, a1, a2, a3, a4, a5, a6, a7, by omega⟩
theorem full_none (ok : SdOk n sd) {p : Int} (h1 : x ≤ p) (h2 : p < e) (h : loadN (sd.map (·.1)) p = n) : ∀ m, ¬ CovW sd n e m x := fun m hc => by
  obtain ⟨s, w, y, k, s1, s2, a3, a4, a5, a6, _, _⟩ := cov_at m x hc p h1 h2
  exact (full_iff ok).mp h s s1 s2 (free_sub a6 a3 (by omega))
theorem none_full (ok : SdOk n sd) (h : ∀ p, x ≤ p → p < e → loadN (sd.map (·.1)) p ≠ n) : ∀ (k : Nat) (p : Int), x ≤ p → p + (k : Int) = e → CovW sd n e k p
  | 0, p, _, h2 => by show p = e; omega
  | k + 1, p, h1, h2 => by
    have := h p h1 (by omega)
    obtain ⟨s, hs⟩ := Classical.not_forall.mp fun z => this ((full_iff ok).mpr z)
    obtain ⟨s1, hs⟩ := Classical.not_imp.mp hs
    obtain ⟨s2, hs⟩ := Classical.not_imp.mp hs
    exact ⟨s, p + 1, s1, s2, by omega, by omega, Classical.not_not.mp hs, none_full ok h k (p + 1) (by omega) (by omega)⟩
theorem way_head {b : Option Int} {l : Leg} {ls : List Leg} (h : wayB sd n b x (l :: ls) = true) : (1 ≤ l.1 ∧ l.1 ≤ n) ∧ l.2.1 = x ∧ x < l.2.2 ∧ freeW sd l.1 x l.2.2 ∧ wayB sd n (some l.1) l.2.2 ls = true := by
  unfold wayB stnB at h
  simp only [Bool.and_eq_true, decide_eq_true_eq] at h
  obtain ⟨⟨⟨⟨h1, h2⟩, h3, h4, h5⟩, h6, h7, h8⟩, h9⟩ := h
  rw [h6] at h5 h8
  exact ⟨⟨h1, h2⟩, h6, h5, h8, h9⟩
theorem way_cov : ∀ (ls : List Leg) (b : Option Int) (x : Int), wayB sd n b x ls = true → lastO e ls = true → CovW sd n e ls.length x
  | [], _, _, _, h => by cases h
  | [l], b, x, h, hl => by
    obtain ⟨⟨a1, a2⟩, a3, a4, a5, a6⟩ := way_head h
    have e1 : l.2.2 = e := of_decide_eq_true hl
    exact ⟨l.1, l.2.2, a1, a2, a4, by omega, a5, e1⟩
  | l :: l2 :: t, b, x, h, hl => by
    obtain ⟨⟨a1, a2⟩, a3, a4, a5, a6⟩ := way_head h
    have ih := way_cov (l2 :: t) (some l.1) l.2.2 a6 (by
      unfold lastO at hl ⊢
      rw [List.getLast?_cons_cons] at hl; exact hl)
    exact ⟨l.1, l.2.2, a1, a2, a4, cov_le _ _ ih, a5, ih⟩
theorem blk_bound : ∀ (ps : List (Int × Int)) (x' : Int) (m : Nat), ps.all (blkB sd n x e) = true → apartB ps = true → (∀ p, ps.head? = some p → x' ≤ p.1) → x' < e → CovW sd n e m x' → ps.length + 1 ≤ m
  | [], x', m, _, _, _, h, hc => by
    cases m with
    | zero => have : x' = e := hc; omega
    | succ m => show 0 + 1 ≤ m + 1; omega
  | p :: ps, x', m, hb, ha, hh, h, hc => by
    rw [List.all_cons, Bool.and_eq_true] at hb
    obtain ⟨b1, b2⟩ := hb
    unfold blkB stnB at b1
    simp only [Bool.and_eq_true, decide_eq_true_eq, Bool.not_eq_true', List.any_eq_false] at b1
    obtain ⟨⟨⟨c1, c2, c3⟩, c4, c5⟩, c6⟩ := b1
    obtain ⟨s, w, y, k, s1, s2, a3, a4, a5, a6, a7, a8⟩ := cov_at m x' hc p.1 (hh p rfl) (by omega)
    have yb : y < p.2 := Classical.byContradiction fun z => c6 s (upto_memJ.mpr ⟨s1, s2⟩) (free_sub a6 a3 (by omega))
    have ih := blk_bound ps y k b2 (by
      cases ps with
      | nil => rfl
      | cons q ps =>
        have : (apart1 p q && apartB (q :: ps)) = true := ha
        rw [Bool.and_eq_true] at this; exact this.2) (fun q hq => by
      cases ps with
      | nil => cases hq
      | cons q' ps =>
        cases hq
        have : (apart1 p q && apartB (q :: ps)) = true := ha
        rw [Bool.and_eq_true] at this
        have h1 := this.1
        unfold apart1 at h1
        rw [Bool.and_eq_true, decide_eq_true_iff, decide_eq_true_iff] at h1
        omega) (by omega) a7
    rw [List.length_cons]
    omega
theorem chg_sound {c : Int} {ls : List Leg} {ps : List (Int × Int)} (c0 : 0 ≤ c) (xe : x < e) (h : chgB sd n x e c ls ps = true) : CovW sd n e (c.toNat + 1) x ∧ ∀ m, CovW sd n e m x → c.toNat + 1 ≤ m := by
  unfold chgB at h
  simp only [Bool.and_eq_true, decide_eq_true_eq] at h
  obtain ⟨⟨h1, h2⟩, ⟨h3, h4⟩, h5, h6⟩ := h
  have l1 : ls.length = c.toNat + 1 := by omega
  have l2 : ps.length = c.toNat := by omega
  refine ⟨by rw [← l1]; exact way_cov ls none x h3 h4, fun m hm => ?_⟩
  rw [← l2]
  refine blk_bound ps x m h5 h6 (fun p hp => ?_) xe hm
  have hm : p ∈ ps := List.mem_of_mem_head? hp
  have := List.all_eq_true.mp h5 p hm
  unfold blkB at this
  simp only [Bool.and_eq_true, decide_eq_true_eq] at this
  exact this.1.2.1
theorem cov_one (h : CovW sd n e 1 x) : ∃ s, 1 ≤ s ∧ s ≤ n ∧ x < e ∧ freeW sd s x e := by
  obtain ⟨s, y, s1, s2, xy, ye, hf, hc⟩ := h
  have : y = e := hc
  subst this
  exact ⟨s, s1, s2, xy, hf⟩
theorem chg_zero (x0 : 0 ≤ x) (h : CovW sd n e 1 x) : ∃ s, 1 ≤ s ∧ s ≤ n ∧ chgB sd n x e 0 [(s, x, e)] [] = true := by
  obtain ⟨s, s1, s2, xy, hf⟩ := cov_one h
  refine ⟨s, s1, s2, ?_⟩
  unfold chgB wayB wayB lastO stnB
  simp only [Bool.and_eq_true, decide_eq_true_eq]
  refine ⟨⟨by show ((1 : Nat) : Int) = 0 + 1; decide, by show ((0 : Nat) : Int) = 0; decide⟩, ⟨⟨⟨⟨⟨s1, s2⟩, x0, by omega, xy⟩, trivial, by simp, hf⟩, trivial⟩, ?_⟩, rfl, rfl⟩
  exact decide_eq_true rfl
theorem chg_one (hw : Rw (sd.map (·.1))) (x0 : 0 ≤ x) (h : CovW sd n e 2 x) (h1 : ¬ CovW sd n e 1 x) : ∃ m s t, x < m ∧ m < e ∧ 1 ≤ s ∧ s ≤ n ∧ 1 ≤ t ∧ t ≤ n ∧ chgB sd n x e 1 [(s, x, m), (t, m, e)] [(x, e)] = true := by
  obtain ⟨s, y, s1, s2, xy, ye, hf, hc⟩ := h
  obtain ⟨t, t1, t2, yz, hf2⟩ := cov_one hc
  have st : s ≠ t := fun z => h1 ⟨s, e, s1, s2, by omega, Int.le_refl _, free_join hw hf (by rw [z]; exact hf2), rfl⟩
  refine ⟨y, s, t, xy, yz, s1, s2, t1, t2, ?_⟩
  unfold chgB wayB wayB wayB lastO stnB
  simp only [Bool.and_eq_true, decide_eq_true_eq, List.all_cons, List.all_nil]
  refine ⟨⟨by show ((2 : Nat) : Int) = 1 + 1; decide, by show ((1 : Nat) : Int) = 1; decide⟩, ⟨⟨⟨⟨⟨s1, s2⟩, x0, by omega, xy⟩, trivial, by simp, hf⟩, ⟨⟨⟨t1, t2⟩, by omega, by omega, yz⟩, trivial, by simpa using st, hf2⟩, trivial⟩, ?_⟩, ⟨?_, trivial⟩, rfl⟩
  · exact decide_eq_true rfl
  · unfold blkB stnB
    simp only [Bool.and_eq_true, decide_eq_true_eq, Bool.not_eq_true', List.any_eq_false]
    refine ⟨⟨⟨x0, by omega, by omega⟩, Int.le_refl _, Int.le_refl _⟩, fun r hr z => ?_⟩
    obtain ⟨r1, r2⟩ := upto_memJ.mp hr
    exact h1 ⟨r, e, r1, r2, by omega, Int.le_refl _, z, rfl⟩
end
/-! sorted words -/
theorem toDs_strsJ : ∀ ws : List Str, toDs (ws.map .str) = some (ws.map PyData.str)
  | [] => rfl
  | w :: ws => by rw [List.map_cons, toDs, toDs_strsJ ws]; rfl
theorem dlt_str {a b : Str} (h : a ≠ b) : PySem.W.dataLe false encD (.str a) (.str b) = true → a.cps.toList < b.cps.toList := by
  intro q
  have q' : (!PySem.W.dataLt (.str b) (.str a)) = true := q
  rw [PySem.W.dataLt_str] at q'
  have nb : ¬ b.cps.toList < a.cps.toList := by simpa using q'
  have hl : a.cps.toList ≠ b.cps.toList := fun z => h (by
    have : a.cps = b.cps := Array.toList_inj.mp z
    cases ha : a; cases hb : b; rw [ha, hb] at this; simp at this; rw [this])
  exact Classical.byContradiction fun na => hl (List.le_antisymm (List.not_lt.mp nb) (List.not_lt.mp na))
theorem q_sortSJ {ws : List Str} {P : PV → Prop} (hn : ws.Nodup) (hl : ws.length ≤ 24) (h : ∀ ys : List Str, ys.Perm ws → ys.Pairwise (fun a b => a.cps.toList < b.cps.toList) → P (.lst (ys.map .str))) : rSortD [.lst (ws.map .str)] P := by
  refine ⟨_, toDs_strsJ ws, fun d hd d' hd' => ?_, .inr fun d hd => ?_, fun x hx => ?_, ?_, ?_⟩
  · obtain ⟨a, _, rfl⟩ := List.mem_map.mp hd
    obtain ⟨b, _, rfl⟩ := List.mem_map.mp hd'
    simp [PySem.W.alike]
  · obtain ⟨a, _, rfl⟩ := List.mem_map.mp hd
    exact ⟨nofun, nofun⟩
  · obtain ⟨a, _, rfl⟩ := List.mem_map.mp hx
    show (PyData.str a).depth ≤ 50
    simp [PyData.depth]
  · have : 24 ≤ sizeLine := by decide
    rw [List.length_map]; omega
  · have e : (ws.map PV.str).mergeSort (PySem.W.dataLe false encD) = (ws.mergeSort fun a b => PySem.W.dataLe false encD (.str a) (.str b)).map .str :=
      (List.map_mergeSort (f := PV.str) (r := fun a b => PySem.W.dataLe false encD (.str a) (.str b)) (s := PySem.W.dataLe false encD) (fun _ _ _ _ => rfl)).symm
    rw [e]
    have hp := List.mergeSort_perm ws fun a b => PySem.W.dataLe false encD (.str a) (.str b)
    have T := PySem.W.sortLe_total (PyProof.Rows.listOrd PyProof.Rows.itemOrd) false fun b : PV => PySem.W.keyToks (encD b)
    have h1 : (ws.mergeSort fun a b => PySem.W.dataLe false encD (.str a) (.str b)).Pairwise fun a b => PySem.W.dataLe false encD (.str a) (.str b) = true :=
      List.pairwise_mergeSort (le := fun a b => PySem.W.dataLe false encD (.str a) (.str b)) (fun a b c p q => T.trans (.str a) (.str b) (.str c) p q) (fun a b => by
        rcases T.total (.str a) (.str b) with p | p
        · exact Bool.or_eq_true_iff.mpr (.inl p)
        · exact Bool.or_eq_true_iff.mpr (.inr p)) ws
    have h2 : (ws.mergeSort fun a b => PySem.W.dataLe false encD (.str a) (.str b)).Nodup := hp.nodup_iff.mpr hn
    exact h _ hp ((h1.and h2).imp fun p => dlt_str p.2 p.1)
end Z
set_option Elab.async false
set_option linter.all false
set_option maxRecDepth 100000
namespace Z
open PySem PySem.Spec L2
open PyProof.Rows hiding St
theorem w_orVJ {ta tb : TEp} {η : EP'} {Q : PV → EP' → Prop} (h : ta η fun x η1 => match x with | .bl false => tb η1 Q | .bl true => Q (.bl true) η1 | _ => False) : tOrVP ta tb η Q := h
theorem q_tuplJ {xs : List PV} {Q : PV → Prop} (h : Q (.tup xs)) : rTuple [.lst xs] Q := h
theorem q_addTJ {xs ys : List PV} {Q : PV → Prop} (h1 : xs ≠ []) (h2 : xs.length + ys.length ≤ sizeLine) (h : Q (.tup (xs ++ ys))) : rAdd (.tup xs) (.tup ys) Q := ⟨h1, h2, h⟩
def fewP (F : Option Nat) : PV := match F with
  | none => .non
  | some c => .int (c : Int)
theorem q_fewNe {F : Option Nat} {k : Nat} {P : PV → Prop} (h : P (.bl (!decide (F = some k)))) : rEqP true (fewP F) (.int (k : Int)) P := by
  cases F with
  | none => exact ⟨.none, .int k, rfl, rfl, by decide, rfl, h⟩
  | some c =>
    refine q_ne ?_
    have e : decide ((c : Int) ≠ (k : Int)) = !decide (some c = some k) := by
      rw [Bool.eq_iff_iff, Bool.not_eq_true', decide_eq_true_iff, decide_eq_false_iff_not]
      exact ⟨fun a b => a (by rw [Option.some.inj b]), fun a b => a (by rw [show c = k by omega])⟩
    rw [e]; exact h
theorem q_fewEq {F : Option Nat} {k : Nat} {P : PV → Prop} (h : P (.bl (decide (F = some k)))) : rEqP false (fewP F) (.int (k : Int)) P := by
  cases F with
  | none => exact ⟨.none, .int k, rfl, rfl, by decide, rfl, h⟩
  | some c =>
    refine q_eq ?_
    have e : decide ((c : Int) = (k : Int)) = decide (some c = some k) := by
      rw [Bool.eq_iff_iff, decide_eq_true_iff, decide_eq_true_iff]
      exact ⟨fun a => by rw [show c = k by omega], fun a => by rw [Option.some.inj a]⟩
    rw [e]; exact h
theorem q_fewIn {F : Option Nat} {P : PV → Prop} (h : P (.bl (decide (F = some 0 ∨ F = some 1)))) : rInLd false (fewP F) (.lst [.int 0, .int 1]) P := by
  cases F with
  | none => exact ⟨.none, [.int 0, .int 1], rfl, rfl, by decide, by decide, h⟩
  | some c =>
    refine ⟨.int c, [.int 0, .int 1], rfl, rfl, rfl, by decide, ?_⟩
    rw [if_neg Bool.false_ne_true]
    have e : (([.int 0, .int 1] : List PyData).any fun z => PyData.eqv z (.int (c : Int))) = decide (some c = some 0 ∨ some c = some 1) := by
      rw [Bool.eq_iff_iff, decide_eq_true_iff, List.any_eq_true]
      constructor
      · rintro ⟨z, hz, hq⟩
        rcases List.mem_cons.mp hz with rfl | hz
        · refine .inl (congrArg some ?_)
          simp [PyData.eqv] at hq; omega
        · rw [List.mem_singleton] at hz
          subst hz
          refine .inr (congrArg some ?_)
          simp [PyData.eqv] at hq; omega
      · rintro (hq | hq)
        · refine ⟨.int 0, List.mem_cons_self, ?_⟩
          rw [Option.some.inj hq]; simp [PyData.eqv]
        · refine ⟨.int 1, List.mem_cons_of_mem _ List.mem_cons_self, ?_⟩
          rw [Option.some.inj hq]; simp [PyData.eqv]
    rw [e]; exact h
def FewO (sd : List Seat) (n x e : Int) : Option Nat → Prop
  | none => ∀ m, ¬ CovW sd n e m x
  | some c => CovW sd n e (c + 1) x ∧ ∀ m, CovW sd n e m x → c + 1 ≤ m
theorem few_of {sd : List Seat} {n x e : Int} {v : PV} (h : FewW sd n x e v) : ∃ F, v = fewP F ∧ FewO sd n x e F := by
  rcases h with ⟨rfl, h⟩ | ⟨c, rfl, h⟩
  · exact ⟨none, rfl, h⟩
  · exact ⟨some c, rfl, h⟩
section
variable {K : PySem.W.Frag} {C : Addr} {args : List PV} {P : PV → Prop} {PF : List PV → Prop} {PR : PV → Ow → Prop} {o : Ow}
theorem rd_law_right (h : sp_law_right K C o args PR) : ts_law_right K C { nx := fun η' => ∃ o', η'[0]? = some (Sl.ow o') ∧ PR .non o', rt := fun x η' => ∃ o', η'[0]? = some (Sl.ow o') ∧ PR x o' } (startR 22 o args) := by
  obtain ⟨po, rfl, hp⟩ := h
  have e : startR 22 o [] = [.ow o, .no, .no, .no, .no, .no, .no, .no, .no, .no, .no, .no, .no, .no, .no, .no, .no, .no, .no, .no, .no, .no] := rfl
  rw [e]
  have sz : 3000 < sizeLine := by decide
  refine w_seq (w_set (w_cb (w_cons (w_callR rfl (w_cons (w_op (w_con (q_draw rfl rfl po (by decide) (by decide) fun o1 k p1 k0 k1 => q_add ?_))))))))
  refine w_nil (q_callM rfl ⟨1 + k, p1, rfl, by omega, by omega, fun o2 ws p2 wl wn => ?_⟩)
  refine w_nil (q_sortSJ wn.2 (by omega) fun ys yp ya => ?_)
  simp only [List.set_cons_zero, List.set_cons_succ]
  have yl : ys.length ≤ 5 := by rw [yp.length_eq]; omega
  have y1 : 1 ≤ ys.length := by rw [yp.length_eq]; omega
  refine w_seq (w_par (w_arV (w_op (w_con (q_draw rfl rfl p2 (by decide) (by decide) fun o3 k' p3 k2 k3 => q_add ?_)))))
  obtain ⟨n, hn, n1, n3⟩ : ∃ n : Int, 1 + k' = n ∧ 1 ≤ n ∧ n ≤ 3 := ⟨_, rfl, by omega, by omega⟩
  rw [hn]
  refine w_arF (w_lstF (w_nil ⟨Nat.zero_le _, ?_⟩))
  refine w_arV (w_con (w_arN ⟨rfl, ⟨by decide, by show 3 < 22; decide, trivial⟩, ?_⟩))
  simp only [storesP, List.set_cons_zero, List.set_cons_succ]
  refine w_seq (w_for (w_lstP (w_var (x := .lst (ys.map .str)) rfl ?_)))
  show ∃ Inv : Nat → EP' → Prop, _
  refine ⟨fun i η => ∃ (rs : List Trip) (o' : Ow) (s5 s6 : Sl), Pool o' ∧ rs.map (·.1) = ys.take i ∧ (∀ r ∈ rs, 0 ≤ r.2.1 ∧ r.2.1 < r.2.2) ∧ η = [.ow o', .va (.lst (ys.map .str)), .va (.int n), .ow (.l (rs.map rowP)), .va (.int 0), s5, s6, .no, .no, .no, .no, .no, .no, .no, .no, .no, .no, .no, .no, .no, .no, .no], ⟨[], o3, _, _, p3, rfl, (fun _ z => absurd z List.not_mem_nil), rfl⟩, ?_, ?_⟩
  · rintro i y η hi ⟨rs, o', s5, s6, po', hf, hb, rfl⟩
    have hil := (List.getElem?_eq_some_iff.mp hi).1
    rw [List.length_map] at hil
    rw [List.getElem?_map] at hi
    obtain ⟨w, hw, rfl⟩ := Option.map_eq_some_iff.mp hi
    have rl : rs.length = i := by
      have := congrArg List.length hf
      rw [List.length_map, List.length_take] at this; omega
    refine w_gname ?_
    simp only [List.set_cons_zero, List.set_cons_succ]
    refine w_seq (w_set (q_draw rfl rfl po' (by decide) (by decide) fun o2 b p2 b0 b1 => ?_))
    simp only [List.set_cons_zero, List.set_cons_succ]
    refine w_app (xs := rs.map rowP) rfl (w_tup (w_cons (w_var (x := .str w) rfl (w_cons (w_var (x := .int b) rfl (w_cons (w_op (w_op (w_var (x := .int b) rfl (w_con (q_add ?_)))))))))))
    refine w_callR rfl (w_cons (w_op (w_con (w_var (x := .int b) rfl (q_sub (w_nil (q_callM rfl ⟨6 - b, p2, rfl, by omega, by omega, fun o3 d p3 d0 d1 => ?_⟩)))))))
    refine q_add (w_nil ⟨sz3, ?_⟩)
    refine q_appM (xs := rs.map rowP) rfl (by rw [List.length_map]; omega) ?_
    simp only [List.set_cons_zero, List.set_cons_succ]
    refine ⟨rs ++ [(w, b, b + 1 + d)], o3, .va (.str w), .va (.int b), p3, ?_, fun r hr => ?_, ?_⟩
    · rw [List.map_append, hf, List.take_succ, hw]; rfl
    · rcases List.mem_append.mp hr with h | h
      · exact hb r h
      · rw [List.mem_singleton.mp h]
        exact ⟨b0, by show b < b + 1 + d; omega⟩
    · rw [List.map_append]; rfl
  rintro η ⟨rs, o4, s5, s6, p4, hf, hb, rfl⟩
  rw [List.length_map, List.take_length] at hf
  dsimp only
  refine w_seq (w_set (w_cb (w_cons (w_varO (o := .l (rs.map rowP)) rfl (w_nil (q_tuplJ ?_))))))
  simp only [List.set_cons_zero, List.set_cons_succ]
  have rl : rs.length = ys.length := by rw [← hf, List.length_map]
  have hw : Rw rs := by
    refine ⟨by omega, fun r hr => ?_, ?_⟩
    · refine ⟨wn.1 r.1 (yp.mem_iff.mp ?_), hb r hr⟩
      rw [← hf]; exact List.mem_map.mpr ⟨r, hr, rfl⟩
    · rw [← hf, List.pairwise_map] at ya
      exact ya
  have hne : rs ≠ [] := fun z => by rw [z] at rl; simp at rl; omega
  have fin : ∀ (o5 : Ow) (pl : PV), Pool o5 → (pl = .non ∨ ∃ sd, pl = planS sd ∧ SdOk n sd ∧ sd.map (·.1) = rs) → ∀ (x e : Int), 0 ≤ x → x < e → e ≤ x + 4 → e ≤ 7 → tSeqP (tIfSP (tBlP (tOpP (rIsN false) (tVarP 7) (tConP .non))) (tRetP (tOpP (rIsT false) (tCallP (sp_accepts K C) [] (tConsP (tTupP (tConsP (tConP (.str ("no seat" : Str))) (tConsP (tVarP 2) (tConsP (tVarP 3) (tConsP (tTupP (tNilP)) (tConsP (tVarP 8) (tConsP (tVarP 9) (tNilP)))))))) (tConsP (tVarP 8) (tNilP)))) (tConP (.bl false)))) (tNextP)) (tSeqP (tAsgP (tTupP (tConsP (tTupP (tConsP (tVarP 2) (tConsP (tVarP 3) (tConsP (tVarP 7) (tConsP (tVarP 8) (tConsP (tVarP 9) (tNilP))))))) (tConsP (tCallP (sp_law_fewest K C) [] (tConsP (tVarP 2) (tConsP (tVarP 3) (tConsP (tVarP 7) (tConsP (tVarP 8) (tConsP (tVarP 9) (tNilP))))))) (tNilP)))) (gTupP 2 (gConsP (gNameP 10) (gConsP (gNameP 11) (gNilP))))) (tSeqP (tSetP 12 (tValP (tLcP (iRng1P (tConP (.int 8))) (gNameP 19) (tYesP) (tCallP (sp_accepts K C) [] (tConsP (tOpP rAdd (tTupP (tConsP (tConP (.str ("no seat" : Str))) (tNilP))) (tVarP 10)) (tConsP (tVarP 19) (tNilP)))) [19]))) (tSeqP (tIfSP (tOrP (tBlP (tOpP (rEqI true) (tCBP rAnyP (tConsP (tVarP 12) (tNilP))) (tOpP (rIsN false) (tVarP 11) (tConP .non)))) (tNotP (tBlP (tCBP rAllP (tConsP (tValP (tLcP (iListP (tVarP 12)) (gNameP 20) (tYesP) (tCBP (rIsI K) (tConsP (tVarP 20) (tConsP (tConP (.raw (.ty "bool"))) (tNilP)))) [20])) (tNilP)))))) (tRetP (tConP (.bl false))) (tNextP)) (tSeqP (tParP [13, 14] (tConsV (tCallP (sp_law_parts K C) [] (tConsP (tVarP 2) (tConsP (tVarP 8) (tConsP (tVarP 9) (tNilP))))) (tConsV (tCallP (sp_law_pairs K C) [] (tConsP (tVarP 8) (tConsP (tVarP 9) (tNilP)))) (tNilAr)))) (tSeqP (tForP (iRng1P (tConP (.int 3))) (gNameP 15) (tSeqP (tSetP 16 (tValP (tLcP (iListP (tVarP 13)) (gNameP 18) (tBlP (tOpP (rEqI false) (tCBP rLen (tConsP (tVarP 18) (tNilP))) (tOpP rAdd (tVarP 15) (tConP (.int 1))))) (tVarP 18) [18]))) (tSeqP (tSetP 17 (tValP (tLcP (iListP (tVarP 14)) (gNameP 18) (tBlP (tOpP (rEqI false) (tCBP rLen (tConsP (tVarP 18) (tNilP))) (tVarP 15))) (tVarP 18) [18]))) (tForP (iListP (tVarP 16)) (gNameP 18) (tSeqP (tSetP 12 (tValP (tLcP (iListP (tVarP 17)) (gNameP 21) (tYesP) (tCallP (sp_accepts K C) [] (tConsP (tOpP rAdd (tOpP rAdd (tTupP (tConsP (tConP (.str ("changes" : Str))) (tNilP))) (tVarP 10)) (tTupP (tConsP (tVarP 15) (tNilP)))) (tConsP (tTupP (tConsP (tVarP 18) (tConsP (tVarP 21) (tNilP)))) (tNilP)))) [21]))) (tSeqP (tIfSP (tAndP (tBlP (tCBP rAnyP (tConsP (tVarP 12) (tNilP)))) (tBlP (tOpP (rEqP true) (tVarP 11) (tVarP 15)))) (tRetP (tConP (.bl false))) (tNextP)) (tSetP 4 (tOpP rAdd (tVarP 4) (tCntBP (tVarP 12) (tConP (.bl true))))))))))) (tRetP (tOrVP (tOpP (rEqP false) (tVarP 11) (tConP (.int 2))) (tOpP (rEqI false) (tOpP rGt (tVarP 4) (tConP (.int 0))) (tOpP (rInLd false) (tVarP 11) (tLstP (tConsP (tConP (.int 0)) (tConsP (tConP (.int 1)) (tNilP)))))))))))))
      { nx := fun η' => ∃ o', η'[0]? = some (Sl.ow o') ∧ PR .non o', rt := fun x η' => ∃ o', η'[0]? = some (Sl.ow o') ∧ PR x o' } [.ow o5, .va (.lst (ys.map .str)), .va (.int n), .va (rowsP rs), .va (.int 0), s5, s6, .va pl, .va (.int x), .va (.int e), .no, .no, .no, .no, .no, .no, .no, .no, .no, .no, .no, .no] := fun o5 pl p5 hpl x e x0 xe e4 e7 => by
    rcases hpl with rfl | ⟨sd, rfl, ok, er⟩
    · refine w_seq (w_if (w_bl (w_op (w_var (x := .non) rfl (w_con (q_isNJ (b := true) rfl ?_))))))
      refine q_iteT (w_ret (w_op (w_call (w_cons (w_tup (w_cons (w_con (w_cons (w_var (x := .int n) rfl (w_cons (w_var (x := rowsP rs) rfl (w_cons (w_tup (w_nil ⟨by show 0 ≤ sizeLine; omega, ?_⟩))))))))))))))
      refine w_cons (w_var (x := .int x) rfl (w_cons (w_var (x := .int e) rfl (w_nil ⟨by show 6 ≤ sizeLine; omega, ?_⟩))))
      refine w_cons (w_var (x := .int x) rfl (w_nil (.inl ⟨n, rs, .tup [], x, e, x, rfl, n1, by omega, hw, .inr ⟨rfl, hne⟩, x0, xe, ?_⟩)))
      exact w_con ⟨o5, rfl, hp o5 p5⟩
    refine w_seq (w_if (w_bl (w_op (w_var (x := planS sd) rfl (w_con (q_isNJ (b := false) rfl ?_))))))
    refine q_iteF (w_next ?_)
    dsimp only
    refine w_seq (w_asg (w_tup (w_cons (w_tup (w_cons (w_var (x := .int n) rfl (w_cons (w_var (x := rowsP rs) rfl (w_cons (w_var (x := planS sd) rfl ?_))))))))))
    refine w_cons (w_var (x := .int x) rfl (w_cons (w_var (x := .int e) rfl (w_nil ⟨by show 5 ≤ sizeLine; omega, ?_⟩))))
    refine w_cons (w_call (w_cons (w_var (x := .int n) rfl (w_cons (w_var (x := rowsP rs) rfl (w_cons (w_var (x := planS sd) rfl (w_cons (w_var (x := .int x) rfl ?_)))))))))
    refine w_cons (w_var (x := .int e) rfl (w_nil ⟨n, sd, x, e, by rw [er]; rfl, ok, x0, xe, by omega, fun v hv => w_nil ⟨sz2, w_gpS ?_⟩⟩))
    obtain ⟨F, rfl, hF⟩ := few_of hv
    simp only [List.set_cons_zero, List.set_cons_succ]
    refine w_seq (w_set (w_val (w_lc (w_rng1 (w_con ⟨by decide, by decide, ?_⟩)))))
    show ∃ Inv : Nat → List PV → EP' → Prop, _
    refine ⟨fun i acc η => acc = ((List.range i).map fun p : Nat => fullB n x e (p : Int) rs).map .bl ∧ ∃ s19, η = [.ow o5, .va (.lst (ys.map .str)), .va (.int n), .va (rowsP rs), .va (.int 0), s5, s6, .va (planS sd), .va (.int x), .va (.int e), .va (.tup [.int n, rowsP rs, planS sd, .int x, .int e]), .va (fewP F), .no, .no, .no, .no, .no, .no, .no, s19, .no, .no], ⟨rfl, _, rfl⟩, ?_, ?_⟩
    · rintro i y acc η hi ⟨rfl, s19, rfl⟩
      obtain ⟨hi8, rfl⟩ := rangeP_get hi
      have hi8 : i < 8 := hi8
      rw [Int.zero_add]
      refine w_gname (w_yes (q_iteT (w_call (w_cons (w_op (w_tup (w_cons (w_con (w_nil ⟨sz1, ?_⟩)))))))))
      refine w_var (x := .tup [.int n, rowsP rs, planS sd, .int x, .int e]) rfl (q_addTJ (by simp) (by show 1 + 5 ≤ sizeLine; omega) ?_)
      refine w_cons (w_var (x := .int (i : Int)) rfl (w_nil (.inl ⟨n, rs, planS sd, x, e, (i : Int), rfl, n1, by omega, hw, .inl ⟨sd, rfl, ok, er⟩, x0, xe, ?_⟩)))
      refine ⟨by rw [List.length_map, List.length_map, List.length_range]; omega, ?_, _, rfl⟩
      rw [List.range_succ, List.map_append, List.map_append]; rfl
    rintro acc η ⟨rfl, s19, rfl⟩
    rw [rangeP_len, show (8 : Int).toNat = 8 from rfl]
    have anyF : ((List.range 8).map fun p : Nat => fullB n x e (p : Int) rs).any id = F.isNone := by
      cases F with
      | none =>
        show _ = true
        refine Classical.byContradiction fun z => ?_
        rw [Bool.not_eq_true, List.any_eq_false] at z
        refine hF (e - x).toNat (none_full ok (fun p h1 h2 h3 => ?_) (e - x).toNat x (Int.le_refl _) (by omega))
        refine z (fullB n x e p rs) (List.mem_map.mpr ⟨p.toNat, List.mem_range.mpr (by omega), by rw [show ((p.toNat : Nat) : Int) = p by omega]⟩) ?_
        unfold fullB
        rw [er] at h3
        show (decide (x ≤ p) && (decide (p < e) && decide (loadN rs p = n))) = true
        rw [decide_eq_true h1, decide_eq_true h2, decide_eq_true h3]; rfl
      | some c =>
        show _ = false
        rw [List.any_eq_false]
        intro b hb z
        obtain ⟨p, _, rfl⟩ := List.mem_map.mp hb
        have z : fullB n x e (p : Int) rs = true := z
        unfold fullB at z
        simp only [Bool.and_eq_true, decide_eq_true_eq] at z
        exact full_none ok z.1 z.2.1 (by rw [er]; exact z.2.2) _ hF.1
    generalize hB : ((List.range 8).map fun p : Nat => fullB n x e (p : Int) rs) = B at anyF ⊢
    have Bl : B.length = 8 := by rw [← hB, List.length_map, List.length_range]
    simp only [List.set_cons_zero, List.set_cons_succ]
    refine w_seq (w_if (w_or (w_bl (w_op (w_cb (w_cons (w_var (x := .lst (B.map .bl)) rfl (w_nil (q_anyJ ?_)))))))))
    refine w_op (w_var (x := fewP F) rfl (w_con (q_isNJ (b := F.isNone) (by cases F <;> rfl) (q_neB ?_))))
    rw [anyF, decide_eq_true rfl]
    refine q_iteF (w_not (w_bl (w_cb (w_cons (w_val (w_lc (w_lstP (w_var (x := .lst (B.map .bl)) rfl ?_))))))))
    show ∃ Inv : Nat → List PV → EP' → Prop, _
    refine ⟨fun i acc η => acc = List.replicate i (.bl true) ∧ ∃ s20, η = [.ow o5, .va (.lst (ys.map .str)), .va (.int n), .va (rowsP rs), .va (.int 0), s5, s6, .va (planS sd), .va (.int x), .va (.int e), .va (.tup [.int n, rowsP rs, planS sd, .int x, .int e]), .va (fewP F), .va (.lst (B.map .bl)), .no, .no, .no, .no, .no, .no, s19, s20, .no], ⟨rfl, _, rfl⟩, ?_, ?_⟩
    · rintro i y acc η hi ⟨rfl, s20, rfl⟩
      have hil := (List.getElem?_eq_some_iff.mp hi).1
      rw [List.length_map] at hil
      rw [List.getElem?_map] at hi
      obtain ⟨b, hb, rfl⟩ := Option.map_eq_some_iff.mp hi
      refine w_gname (w_yes (q_iteT (w_cb (w_cons (w_var (x := .bl b) rfl (w_cons (w_con (w_nil (isi_bool (.inl rfl) ⟨?_, ?_, _, rfl⟩)))))))))
      · rw [List.length_replicate]; omega
      · rw [List.replicate_succ']; rfl
    rintro acc η ⟨rfl, s20, rfl⟩
    refine w_nil (q_all (all_true60 _) ?_)
    rw [rep_all]
    refine q_iteF (w_next ?_)
    dsimp only
    refine w_seq (w_par (w_arV (w_call (w_cons (w_var (x := .int n) rfl (w_cons (w_var (x := .int x) rfl (w_cons (w_var (x := .int e) rfl (w_nil ⟨n, x, e, rfl, n1, n3, x0, xe, e4, by omega, fun rows r1 r2 r3 r4 => ?_⟩))))))))))
    refine w_arV (w_call (w_cons (w_var (x := .int x) rfl (w_cons (w_var (x := .int e) rfl (w_nil ⟨x, e, rfl, x0, xe, e4, by omega, fun prs g1 g2 g3 g4 => w_arN ⟨rfl, trivial, ?_⟩⟩))))))
    simp only [storesP, List.set_cons_zero, List.set_cons_succ]
    refine w_seq (w_for (w_rng1 (w_con ⟨by decide, by decide, ?_⟩)))
    show ∃ Inv : Nat → EP' → Prop, _
    refine ⟨fun k η => ∃ (cnt : Int) (s12 s15 s16 s17 s18 s21 : Sl), 0 ≤ cnt ∧ (0 < cnt → ∃ c : Nat, F = some c ∧ c ≤ 2) ∧ (∀ (c : Nat), c < k → ∀ ls ∈ rows, ls.length = c + 1 → ∀ ps ∈ prs, ps.length = c → chgB sd n x e (c : Int) ls ps = true → 0 < cnt) ∧ η = [.ow o5, .va (.lst (ys.map .str)), .va (.int n), .va (rowsP rs), .va (.int cnt), s5, s6, .va (planS sd), .va (.int x), .va (.int e), .va (.tup [.int n, rowsP rs, planS sd, .int x, .int e]), .va (fewP F), s12, .va (rowsL rows), .va (rowsQ prs), s15, s16, s17, s18, s19, s20, s21], ⟨0, _, _, _, _, _, _, Int.le_refl _, fun z => absurd z (Int.lt_irrefl _), fun c hc => absurd hc (Nat.not_lt_zero _), rfl⟩, ?_, ?_⟩
    · rintro k y η hk ⟨cnt, s12, s15, s16, s17, s18, s21, c0, c1, c2, rfl⟩
      obtain ⟨hk3, rfl⟩ := rangeP_get hk
      have hk3 : k < 3 := hk3
      rw [Int.zero_add]
      refine w_gname ?_
      simp only [List.set_cons_zero, List.set_cons_succ]
      refine w_seq (w_set (w_val (w_lc (w_lstP (w_var (x := rowsL rows) rfl ?_)))))
      show ∃ Inv : Nat → List PV → EP' → Prop, _
      refine ⟨fun i acc η => acc = ((rows.take i).filter fun ls => decide ((ls.length : Int) = (k : Int) + 1)).map rowLP ∧ ∃ s18, η = [.ow o5, .va (.lst (ys.map .str)), .va (.int n), .va (rowsP rs), .va (.int cnt), s5, s6, .va (planS sd), .va (.int x), .va (.int e), .va (.tup [.int n, rowsP rs, planS sd, .int x, .int e]), .va (fewP F), s12, .va (rowsL rows), .va (rowsQ prs), .va (.int (k : Int)), s16, s17, s18, s19, s20, s21], ⟨rfl, _, rfl⟩, ?_, ?_⟩
      · rintro i y acc η hi ⟨rfl, s18, rfl⟩
        rw [List.getElem?_map] at hi
        obtain ⟨ls, hls, rfl⟩ := Option.map_eq_some_iff.mp hi
        refine w_gname (w_bl (w_op (w_cb (w_cons (w_var (x := rowLP ls) rfl (w_nil (q_lenT ?_)))))))
        refine w_op (w_var (x := .int (k : Int)) rfl (w_con (q_add (q_eqN ?_))))
        rw [List.length_map]
        cases c : decide ((ls.length : Int) = (k : Int) + 1) with
        | false =>
          refine q_iteF ⟨?_, _, rfl⟩
          rw [take_filterF hls c]
        | true =>
          refine q_iteT (w_var (x := rowLP ls) rfl ⟨?_, ?_, _, rfl⟩)
          · rw [List.length_map]
            have := List.length_filter_le (fun ls : List Leg => decide ((ls.length : Int) = (k : Int) + 1)) (rows.take i)
            rw [List.length_take] at this
            omega
          · rw [take_filterT hls c, List.map_append]; rfl
      rintro acc η ⟨rfl, s18, rfl⟩
      rw [List.length_map, List.take_length]
      have fm : ∀ ls, ls ∈ rows.filter (fun ls => decide ((ls.length : Int) = (k : Int) + 1)) ↔ ls ∈ rows ∧ ls.length = k + 1 := fun ls => by
        rw [List.mem_filter, decide_eq_true_iff]
        constructor <;> rintro ⟨a, b⟩ <;> exact ⟨a, by omega⟩
      have fl := List.length_filter_le (fun ls : List Leg => decide ((ls.length : Int) = (k : Int) + 1)) rows
      generalize rows.filter (fun ls => decide ((ls.length : Int) = (k : Int) + 1)) = FT at fm fl ⊢
      simp only [List.set_cons_zero, List.set_cons_succ]
      refine w_seq (w_set (w_val (w_lc (w_lstP (w_var (x := rowsQ prs) rfl ?_)))))
      show ∃ Inv : Nat → List PV → EP' → Prop, _
      refine ⟨fun i acc η => acc = ((prs.take i).filter fun ps => decide ((ps.length : Int) = (k : Int))).map rowQP ∧ ∃ s18, η = [.ow o5, .va (.lst (ys.map .str)), .va (.int n), .va (rowsP rs), .va (.int cnt), s5, s6, .va (planS sd), .va (.int x), .va (.int e), .va (.tup [.int n, rowsP rs, planS sd, .int x, .int e]), .va (fewP F), s12, .va (rowsL rows), .va (rowsQ prs), .va (.int (k : Int)), .va (.lst (FT.map rowLP)), s17, s18, s19, s20, s21], ⟨rfl, _, rfl⟩, ?_, ?_⟩
      · rintro i y acc η hi ⟨rfl, s18, rfl⟩
        rw [List.getElem?_map] at hi
        obtain ⟨ps, hps, rfl⟩ := Option.map_eq_some_iff.mp hi
        refine w_gname (w_bl (w_op (w_cb (w_cons (w_var (x := rowQP ps) rfl (w_nil (q_lenT ?_)))))))
        refine w_var (x := .int (k : Int)) rfl (q_eqN ?_)
        rw [List.length_map]
        cases c : decide ((ps.length : Int) = (k : Int)) with
        | false =>
          refine q_iteF ⟨?_, _, rfl⟩
          rw [take_filterF hps c]
        | true =>
          refine q_iteT (w_var (x := rowQP ps) rfl ⟨?_, ?_, _, rfl⟩)
          · rw [List.length_map]
            have := List.length_filter_le (fun ps : List (Int × Int) => decide ((ps.length : Int) = (k : Int))) (prs.take i)
            rw [List.length_take] at this
            omega
          · rw [take_filterT hps c, List.map_append]; rfl
      rintro acc η ⟨rfl, s18, rfl⟩
      rw [List.length_map, List.take_length]
      have nm : ∀ ps, ps ∈ prs.filter (fun ps => decide ((ps.length : Int) = (k : Int))) ↔ ps ∈ prs ∧ ps.length = k := fun ps => by
        rw [List.mem_filter, decide_eq_true_iff]
        constructor <;> rintro ⟨a, b⟩ <;> exact ⟨a, by omega⟩
      have nl := List.length_filter_le (fun ps : List (Int × Int) => decide ((ps.length : Int) = (k : Int))) prs
      generalize prs.filter (fun ps => decide ((ps.length : Int) = (k : Int))) = NT at nm nl ⊢
      simp only [List.set_cons_zero, List.set_cons_succ]
      refine w_for (w_lstP (w_var (x := .lst (FT.map rowLP)) rfl ?_))
      show ∃ Inv : Nat → EP' → Prop, _
      refine ⟨fun j η => ∃ (cn : Int) (s12 s18 s21 : Sl), cnt ≤ cn ∧ (0 < cn → ∃ c : Nat, F = some c ∧ c ≤ 2) ∧ (∀ ls ∈ FT.take j, ∀ ps ∈ NT, chgB sd n x e (k : Int) ls ps = true → 0 < cn) ∧ η = [.ow o5, .va (.lst (ys.map .str)), .va (.int n), .va (rowsP rs), .va (.int cn), s5, s6, .va (planS sd), .va (.int x), .va (.int e), .va (.tup [.int n, rowsP rs, planS sd, .int x, .int e]), .va (fewP F), s12, .va (rowsL rows), .va (rowsQ prs), .va (.int (k : Int)), .va (.lst (FT.map rowLP)), .va (.lst (NT.map rowQP)), s18, s19, s20, s21], ⟨cnt, _, _, _, Int.le_refl _, c1, (fun ls z => absurd z List.not_mem_nil), rfl⟩, ?_, ?_⟩
      · rintro j y η hj ⟨cn, s12, s18, s21, d0, d1, d2, rfl⟩
        rw [List.getElem?_map] at hj
        obtain ⟨ls, hls, rfl⟩ := Option.map_eq_some_iff.mp hj
        obtain ⟨lr, ll⟩ := (fm ls).mp (List.mem_of_getElem? hls)
        have et : FT.take (j + 1) = FT.take j ++ [ls] := by rw [List.take_succ, hls]; rfl
        refine w_gname ?_
        simp only [List.set_cons_zero, List.set_cons_succ]
        refine w_seq (w_set (w_val (w_lc (w_lstP (w_var (x := .lst (NT.map rowQP)) rfl ?_)))))
        show ∃ Inv : Nat → List PV → EP' → Prop, _
        refine ⟨fun i acc η => acc = ((NT.take i).map fun ps => chgB sd n x e (k : Int) ls ps).map .bl ∧ ∃ s21, η = [.ow o5, .va (.lst (ys.map .str)), .va (.int n), .va (rowsP rs), .va (.int cn), s5, s6, .va (planS sd), .va (.int x), .va (.int e), .va (.tup [.int n, rowsP rs, planS sd, .int x, .int e]), .va (fewP F), s12, .va (rowsL rows), .va (rowsQ prs), .va (.int (k : Int)), .va (.lst (FT.map rowLP)), .va (.lst (NT.map rowQP)), .va (rowLP ls), s19, s20, s21], ⟨rfl, _, rfl⟩, ?_, ?_⟩
        · rintro i y acc η hi ⟨rfl, s21, rfl⟩
          have hil := (List.getElem?_eq_some_iff.mp hi).1
          rw [List.length_map] at hil
          rw [List.getElem?_map] at hi
          obtain ⟨ps, hps, rfl⟩ := Option.map_eq_some_iff.mp hi
          obtain ⟨pr, pl⟩ := (nm ps).mp (List.mem_of_getElem? hps)
          refine w_gname (w_yes (q_iteT (w_call (w_cons (w_op (w_op (w_tup (w_cons (w_con (w_nil ⟨sz1, ?_⟩))))))))))
          refine w_var (x := .tup [.int n, rowsP rs, planS sd, .int x, .int e]) rfl (q_addTJ (by simp) (by show 1 + 5 ≤ sizeLine; omega) ?_)
          refine w_tup (w_cons (w_var (x := .int (k : Int)) rfl (w_nil ⟨sz1, q_addTJ (by simp) (by show 6 + 1 ≤ sizeLine; omega) ?_⟩)))
          refine w_cons (w_tup (w_cons (w_var (x := rowLP ls) rfl (w_cons (w_var (x := rowQP ps) rfl (w_nil ⟨sz2, ?_⟩))))))
          refine w_nil (.inr ⟨n, sd, x, e, (k : Int), ls, ps, by rw [er]; rfl, ok, x0, xe, by omega, by omega, by omega, ?_⟩)
          refine ⟨by rw [List.length_map, List.length_map, List.length_take]; omega, ?_, _, rfl⟩
          rw [take_map hps, List.map_append]; rfl
        rintro acc η ⟨rfl, s21, rfl⟩
        rw [List.length_map, List.take_length]
        generalize hT : (NT.map fun ps => chgB sd n x e (k : Int) ls ps) = T
        simp only [List.set_cons_zero, List.set_cons_succ]
        have tr : T.any id = true → F = some k := fun h => by
          obtain ⟨b, hb, hbt⟩ := List.any_eq_true.mp h
          rw [← hT] at hb
          obtain ⟨ps, hps, rfl⟩ := List.mem_map.mp hb
          obtain ⟨q1, q2⟩ := chg_sound (c := (k : Int)) (by omega) xe hbt
          rw [show ((k : Int)).toNat = k by omega] at q1 q2
          cases F with
          | none => exact absurd q1 (hF _)
          | some c =>
            have h1 := hF.2 _ q1
            have h2 := q2 _ hF.1
            rw [show c = k by omega]
        have cont : ∀ (bb : Bool), bb = T.any id → tSetP 4 (tOpP rAdd (tVarP 4) (tCntBP (tVarP 12) (tConP (.bl true)))) { nx := fun η => ∃ (cn : Int) (s12 s18 s21 : Sl), cnt ≤ cn ∧ (0 < cn → ∃ c : Nat, F = some c ∧ c ≤ 2) ∧ (∀ ls ∈ FT.take (j + 1), ∀ ps ∈ NT, chgB sd n x e (k : Int) ls ps = true → 0 < cn) ∧ η = [.ow o5, .va (.lst (ys.map .str)), .va (.int n), .va (rowsP rs), .va (.int cn), s5, s6, .va (planS sd), .va (.int x), .va (.int e), .va (.tup [.int n, rowsP rs, planS sd, .int x, .int e]), .va (fewP F), s12, .va (rowsL rows), .va (rowsQ prs), .va (.int (k : Int)), .va (.lst (FT.map rowLP)), .va (.lst (NT.map rowQP)), s18, s19, s20, s21], rt := fun x η' => ∃ o', η'[0]? = some (Sl.ow o') ∧ PR x o' } [.ow o5, .va (.lst (ys.map .str)), .va (.int n), .va (rowsP rs), .va (.int cn), s5, s6, .va (planS sd), .va (.int x), .va (.int e), .va (.tup [.int n, rowsP rs, planS sd, .int x, .int e]), .va (fewP F), .va (.lst (T.map .bl)), .va (rowsL rows), .va (rowsQ prs), .va (.int (k : Int)), .va (.lst (FT.map rowLP)), .va (.lst (NT.map rowQP)), .va (rowLP ls), s19, s20, s21] := fun bb hbb => by
          refine w_set (w_op (w_var (x := .int cn) rfl (w_cntB (w_var (x := .lst (T.map .bl)) rfl ⟨⟨_, rfl⟩, w_con ⟨T, true, rfl, rfl, q_add ?_⟩⟩))))
          simp only [List.set_cons_zero, List.set_cons_succ]
          refine ⟨cn + ((T.count true : Nat) : Int), _, _, _, by omega, fun z => ?_, fun l hl ps hps hc => ?_, rfl⟩
          · by_cases q : T.any id = true
            · exact ⟨k, tr q, by omega⟩
            · refine d1 ?_
              have : T.count true = 0 := List.count_eq_zero.mpr fun z => q (List.any_eq_true.mpr ⟨true, z, rfl⟩)
              rw [this] at z
              omega
          · rw [et] at hl
            rcases List.mem_append.mp hl with hl | hl
            · have := d2 l hl ps hps hc
              omega
            · rw [List.mem_singleton.mp hl] at hc
              have : 0 < T.count true := List.count_pos_iff.mpr (by rw [← hT]; exact List.mem_map.mpr ⟨ps, hps, hc⟩)
              omega
        refine w_seq (w_if (w_and (w_bl (w_cb (w_cons (w_var (x := .lst (T.map .bl)) rfl (w_nil (q_anyJ ?_))))))))
        cases q : T.any id with
        | false =>
          refine q_iteF (q_iteF (w_next ?_))
          dsimp only
          exact cont false q.symm
        | true =>
          refine q_iteT (w_bl (w_op (w_var (x := fewP F) rfl (w_var (x := .int (k : Int)) rfl (q_fewNe ?_)))))
          rw [decide_eq_true (tr q)]
          refine q_iteF (w_next ?_)
          dsimp only
          exact cont true q.symm
      · rintro η ⟨cn, s12, s18, s21, d0, d1, d2, rfl⟩
        rw [List.length_map, List.take_length] at d2
        dsimp only
        refine ⟨cn, _, _, _, _, _, _, by omega, d1, fun c hc ls hls hl ps hps hpl hch => ?_, rfl⟩
        by_cases ck : c < k
        · have := c2 c ck ls hls hl ps hps hpl hch
          omega
        · have : c = k := by omega
          subst this
          exact d2 ls ((fm ls).mpr ⟨hls, hl⟩) ps ((nm ps).mpr ⟨hps, hpl⟩) hch
    · rintro η ⟨cnt, s12, s15, s16, s17, s18, s21, c0, c1, c2, rfl⟩
      rw [rangeP_len, show (3 : Int).toNat = 3 from rfl] at c2
      dsimp only
      have last : F = some 2 ∨ decide (0 < cnt) = decide (F = some 0 ∨ F = some 1) := by
        by_cases f2 : F = some 2
        · exact .inl f2
        refine .inr ?_
        rw [Bool.eq_iff_iff, decide_eq_true_iff, decide_eq_true_iff]
        constructor
        · intro z
          obtain ⟨c, hc, hc2⟩ := c1 z
          have : c ≠ 2 := fun q => f2 (by rw [hc, q])
          rcases Nat.lt_or_ge c 1 with h | h
          · exact .inl (by rw [hc, show c = 0 by omega])
          · exact .inr (by rw [hc, show c = 1 by omega])
        · rintro (z | z)
          · subst z
            obtain ⟨s, s1, s2, hch⟩ := chg_zero x0 hF.1
            exact c2 0 (by decide) _ (r3 s s1 s2) rfl _ g3 rfl hch
          · subst z
            obtain ⟨m, s, t, m1, m2, s1, s2, t1, t2, hch⟩ := chg_one ok.w x0 hF.1 (fun q => by have := hF.2 1 q; omega)
            exact c2 1 (by decide) _ (r4 m s t m1 m2 s1 s2 t1 t2) rfl _ g4 rfl hch
      refine w_ret (w_orVJ (w_op (w_var (x := fewP F) rfl (w_con (q_fewEq (k := 2) ?_)))))
      rcases last with f2 | lt
      · rw [decide_eq_true f2]
        exact ⟨o5, rfl, hp o5 p5⟩
      · cases f2 : decide (F = some 2) with
        | true => exact ⟨o5, rfl, hp o5 p5⟩
        | false =>
          refine w_op (w_op (w_var (x := .int cnt) rfl (w_con (q_gt ?_))))
          refine w_op (w_var (x := fewP F) rfl (w_lst (w_cons (w_con (w_cons (w_con (w_nil ⟨sz2, q_fewIn (q_eqB ?_)⟩)))))))
          rw [lt, decide_eq_true rfl]
          exact ⟨o5, rfl, hp o5 p5⟩
  have lastS : ∀ (o5 : Ow) (pl : PV), Pool o5 → (pl = .non ∨ ∃ sd, pl = planS sd ∧ SdOk n sd ∧ sd.map (·.1) = rs) → ∀ x : Int, 0 ≤ x → x < 4 → tSeqP (tSetP 9 (tOpP rAdd (tOpP rAdd (tVarP 8) (tConP (.int 1))) (tCallRP 0 (sp_law_draw K C) (tConsP (tConP (.int 4)) (tNilP))))) (tSeqP (tIfSP (tBlP (tOpP (rIsN false) (tVarP 7) (tConP .non))) (tRetP (tOpP (rIsT false) (tCallP (sp_accepts K C) [] (tConsP (tTupP (tConsP (tConP (.str ("no seat" : Str))) (tConsP (tVarP 2) (tConsP (tVarP 3) (tConsP (tTupP (tNilP)) (tConsP (tVarP 8) (tConsP (tVarP 9) (tNilP)))))))) (tConsP (tVarP 8) (tNilP)))) (tConP (.bl false)))) (tNextP)) (tSeqP (tAsgP (tTupP (tConsP (tTupP (tConsP (tVarP 2) (tConsP (tVarP 3) (tConsP (tVarP 7) (tConsP (tVarP 8) (tConsP (tVarP 9) (tNilP))))))) (tConsP (tCallP (sp_law_fewest K C) [] (tConsP (tVarP 2) (tConsP (tVarP 3) (tConsP (tVarP 7) (tConsP (tVarP 8) (tConsP (tVarP 9) (tNilP))))))) (tNilP)))) (gTupP 2 (gConsP (gNameP 10) (gConsP (gNameP 11) (gNilP))))) (tSeqP (tSetP 12 (tValP (tLcP (iRng1P (tConP (.int 8))) (gNameP 19) (tYesP) (tCallP (sp_accepts K C) [] (tConsP (tOpP rAdd (tTupP (tConsP (tConP (.str ("no seat" : Str))) (tNilP))) (tVarP 10)) (tConsP (tVarP 19) (tNilP)))) [19]))) (tSeqP (tIfSP (tOrP (tBlP (tOpP (rEqI true) (tCBP rAnyP (tConsP (tVarP 12) (tNilP))) (tOpP (rIsN false) (tVarP 11) (tConP .non)))) (tNotP (tBlP (tCBP rAllP (tConsP (tValP (tLcP (iListP (tVarP 12)) (gNameP 20) (tYesP) (tCBP (rIsI K) (tConsP (tVarP 20) (tConsP (tConP (.raw (.ty "bool"))) (tNilP)))) [20])) (tNilP)))))) (tRetP (tConP (.bl false))) (tNextP)) (tSeqP (tParP [13, 14] (tConsV (tCallP (sp_law_parts K C) [] (tConsP (tVarP 2) (tConsP (tVarP 8) (tConsP (tVarP 9) (tNilP))))) (tConsV (tCallP (sp_law_pairs K C) [] (tConsP (tVarP 8) (tConsP (tVarP 9) (tNilP)))) (tNilAr)))) (tSeqP (tForP (iRng1P (tConP (.int 3))) (gNameP 15) (tSeqP (tSetP 16 (tValP (tLcP (iListP (tVarP 13)) (gNameP 18) (tBlP (tOpP (rEqI false) (tCBP rLen (tConsP (tVarP 18) (tNilP))) (tOpP rAdd (tVarP 15) (tConP (.int 1))))) (tVarP 18) [18]))) (tSeqP (tSetP 17 (tValP (tLcP (iListP (tVarP 14)) (gNameP 18) (tBlP (tOpP (rEqI false) (tCBP rLen (tConsP (tVarP 18) (tNilP))) (tVarP 15))) (tVarP 18) [18]))) (tForP (iListP (tVarP 16)) (gNameP 18) (tSeqP (tSetP 12 (tValP (tLcP (iListP (tVarP 17)) (gNameP 21) (tYesP) (tCallP (sp_accepts K C) [] (tConsP (tOpP rAdd (tOpP rAdd (tTupP (tConsP (tConP (.str ("changes" : Str))) (tNilP))) (tVarP 10)) (tTupP (tConsP (tVarP 15) (tNilP)))) (tConsP (tTupP (tConsP (tVarP 18) (tConsP (tVarP 21) (tNilP)))) (tNilP)))) [21]))) (tSeqP (tIfSP (tAndP (tBlP (tCBP rAnyP (tConsP (tVarP 12) (tNilP)))) (tBlP (tOpP (rEqP true) (tVarP 11) (tVarP 15)))) (tRetP (tConP (.bl false))) (tNextP)) (tSetP 4 (tOpP rAdd (tVarP 4) (tCntBP (tVarP 12) (tConP (.bl true))))))))))) (tRetP (tOrVP (tOpP (rEqP false) (tVarP 11) (tConP (.int 2))) (tOpP (rEqI false) (tOpP rGt (tVarP 4) (tConP (.int 0))) (tOpP (rInLd false) (tVarP 11) (tLstP (tConsP (tConP (.int 0)) (tConsP (tConP (.int 1)) (tNilP))))))))))))))
      { nx := fun η' => ∃ o', η'[0]? = some (Sl.ow o') ∧ PR .non o', rt := fun x η' => ∃ o', η'[0]? = some (Sl.ow o') ∧ PR x o' } [.ow o5, .va (.lst (ys.map .str)), .va (.int n), .va (rowsP rs), .va (.int 0), s5, s6, .va pl, .va (.int x), .no, .no, .no, .no, .no, .no, .no, .no, .no, .no, .no, .no, .no] := fun o5 pl p5 hpl x x0 x1 => by
    refine w_seq (w_set (w_op (w_op (w_var (x := .int x) rfl (w_con (q_add ?_))))))
    refine q_draw rfl rfl p5 (by decide) (by decide) fun o6 d p6 d0 d1 => q_add ?_
    simp only [List.set_cons_zero, List.set_cons_succ]
    exact fin o6 pl p6 hpl x (x + 1 + d) x0 (by omega) (by omega) (by omega)
  refine w_seq (w_par (w_arV (w_callR rfl (w_cons (w_var (x := .int n) rfl (w_cons (w_var (x := rowsP rs) rfl (w_nil (q_callM rfl ⟨n, rs, rowsP rs, p4, rfl, .inr rfl, n1, by omega, hw, fun _ o5 p5 => ?_, fun sd o5 p5 e1 g => ?_⟩)))))))))
  · refine w_arV (q_draw rfl rfl p5 (by decide) (by decide) fun o6 x p6 x0 x1 => w_arN ⟨rfl, trivial, ?_⟩)
    simp only [storesP, List.set_cons_zero, List.set_cons_succ]
    exact lastS o6 .non p6 (.inl rfl) x x0 x1
  · refine w_arV (q_draw rfl rfl p5 (by decide) (by decide) fun o6 x p6 x0 x1 => w_arN ⟨rfl, trivial, ?_⟩)
    simp only [storesP, List.set_cons_zero, List.set_cons_succ]
    exact lastS o6 (planS sd) p6 (.inr ⟨sd, rfl, ⟨n1, by omega, by rw [e1]; exact hw, g⟩, e1⟩) x x0 x1
theorem rd_law (h : sp_law K C args P) : ts_law K C { nx := fun _ => P .non, rt := fun x _ => P x } (startP 2 args) := by
  obtain ⟨ns, rfl, hl, hp⟩ := h
  have e : startP 2 [.scr ns] = [.va (.scr ns), .no] := rfl
  rw [e]
  have sz : 1000 < sizeLine := by decide
  refine w_ret (w_cb (w_cons (w_val (w_lc (w_rng1 (w_con ⟨by decide, by decide, ?_⟩))))))
  show ∃ Inv : Nat → List PV → EP' → Prop, _
  refine ⟨fun i acc η => acc = List.replicate i (.bl true) ∧ ∃ s1, η = [.va (.scr ns), s1], ⟨rfl, _, rfl⟩, ?_, ?_⟩
  · rintro i x acc η hi ⟨rfl, s1, rfl⟩
    obtain ⟨hn, rfl⟩ := rangeP_get hi
    have hn : i < 2 := hn
    refine w_gname (w_yes (q_iteT ?_))
    refine w_callRF' (w_callF' (w_cons (w_call (w_cons (w_var (x := .scr ns) rfl (w_cons (w_var rfl (w_nil ⟨ns, _, rfl, by omega, by omega, fun c => ?_⟩))))))))
    refine w_nil ⟨c, rfl, fun s d s0 s1 d0 => w_nil ⟨⟨s, d, 0, rfl, s0, s1, d0⟩, rfl, fun o' p' => ?_⟩⟩
    exact ⟨by rw [List.length_replicate]; omega, by rw [List.replicate_succ'], _, rfl⟩
  · rintro acc η ⟨rfl, s1, rfl⟩
    rw [rangeP_len]
    refine w_nil (q_all (all_true60 _) ?_)
    rw [show ∀ n : Nat, (List.replicate n true).all id = true from fun n => by simp]
    exact hp
end
end Z
set_option Elab.async false
set_option linter.all false
set_option maxRecDepth 100000
set_option maxHeartbeats 4000000
namespace ZK
open PySem PySem.Spec L2 Z
open PyProof.Rows hiding St
def top (i : Nat) : Stmt := PySem.Challenge.pw_seatchains_k83_whole_true_claims_about_p.main.body.getD i (.Pass ⟨0, 0, 0, 0⟩)
abbrev s_law_cell : Stmt := top 37
abbrev N_law_cell : List Str := [("_law_script" : Str), ("_law_k" : Str), ("_law_state" : Str), ("_law_cell_here" : Str)]
theorem sc_law_cell : FnScope N_law_cell [("_law_script" : Str), ("_law_k" : Str)] (defScope s_law_cell) := ⟨rfl, rfl, rfl, by decide +kernel, rfl, by decide +kernel, by decide +kernel⟩
abbrev s_law_pool : Stmt := top 38
abbrev N_law_pool : List Str := [("_law_cell_here" : Str), ("_law_digits" : Str)]
theorem sc_law_pool : FnScope N_law_pool [("_law_cell_here" : Str)] (defScope s_law_pool) := ⟨rfl, rfl, rfl, by decide +kernel, rfl, by decide +kernel, by decide +kernel⟩
abbrev s_law_draw : Stmt := top 39
abbrev N_law_draw : List Str := [("_law_pool_here" : Str), ("_law_many" : Str), ("_law_state" : Str), ("_law_digit" : Str)]
theorem sc_law_draw : FnScope N_law_draw [("_law_pool_here" : Str), ("_law_many" : Str)] (defScope s_law_draw) := ⟨rfl, rfl, rfl, by decide +kernel, rfl, by decide +kernel, by decide +kernel⟩
abbrev s_law_by_startS : Stmt := top 42
abbrev N_law_by_startS : List Str := [("_law_rides" : Str), ("_law_rows" : Str), ("_law_ride" : Str), ("_law_row" : Str)]
theorem sc_law_by_startS : FnScope N_law_by_startS [("_law_rides" : Str)] (defScope s_law_by_startS) := ⟨rfl, rfl, rfl, by decide +kernel, rfl, by decide +kernel, by decide +kernel⟩
abbrev s_law_meet : Stmt := top 41
abbrev N_law_meet : List Str := [("_law_one_ride" : Str), ("_law_more_ride" : Str)]
theorem sc_law_meet : FnScope N_law_meet [("_law_one_ride" : Str), ("_law_more_ride" : Str)] (defScope s_law_meet) := ⟨rfl, rfl, rfl, by decide +kernel, rfl, by decide +kernel, by decide +kernel⟩
abbrev s_law_choices : Stmt := top 43
abbrev N_law_choices : List Str := [("_law_width" : Str), ("_law_rides" : Str), ("_law_held_here" : Str), ("_law_ride" : Str), ("_law_taken" : Str), ("_law_each" : Str), ("_law_spot" : Str)]
theorem sc_law_choices : FnScope N_law_choices [("_law_width" : Str), ("_law_rides" : Str), ("_law_held_here" : Str), ("_law_ride" : Str)] (defScope s_law_choices) := ⟨rfl, rfl, rfl, by decide +kernel, rfl, by decide +kernel, by decide +kernel⟩
abbrev s_law_flat : Stmt := top 44
abbrev N_law_flat : List Str := [("_law_held_here" : Str), ("_law_word" : Str)]
theorem sc_law_flat : FnScope N_law_flat [("_law_held_here" : Str)] (defScope s_law_flat) := ⟨rfl, rfl, rfl, by decide +kernel, rfl, by decide +kernel, by decide +kernel⟩
abbrev s_law_drawn : Stmt := top 45
abbrev N_law_drawn : List Str := [("_law_pool_here" : Str), ("_law_width" : Str), ("_law_rides" : Str), ("_law_held_here" : Str), ("_law_ride" : Str), ("_law_spots" : Str)]
theorem sc_law_drawn : FnScope N_law_drawn [("_law_pool_here" : Str), ("_law_width" : Str), ("_law_rides" : Str)] (defScope s_law_drawn) := ⟨rfl, rfl, rfl, by decide +kernel, rfl, by decide +kernel, by decide +kernel⟩
abbrev s_law_held : Stmt := top 46
abbrev N_law_held : List Str := [("_law_spots" : Str), ("_law_held_here" : Str), ("_law_word" : Str), ("_law_spot" : Str)]
theorem sc_law_held : FnScope N_law_held [("_law_spots" : Str)] (defScope s_law_held) := ⟨rfl, rfl, rfl, by decide +kernel, rfl, by decide +kernel, by decide +kernel⟩
abbrev s_law_fewest : Stmt := top 47
abbrev N_law_fewest : List Str := [("_law_width" : Str), ("_law_rides" : Str), ("_law_spots" : Str), ("_law_first" : Str), ("_law_last" : Str), ("_law_held_here" : Str), ("_law_layer" : Str), ("_law_place" : Str), ("_law_taken" : Str), ("_law_later" : Str), ("_law_spot" : Str), ("_law_steps_here" : Str), ("_law_ride" : Str), ("_law_each" : Str)]
theorem sc_law_fewest : FnScope N_law_fewest [("_law_width" : Str), ("_law_rides" : Str), ("_law_spots" : Str), ("_law_first" : Str), ("_law_last" : Str)] (defScope s_law_fewest) := ⟨rfl, rfl, rfl, by decide +kernel, rfl, by decide +kernel, by decide +kernel⟩
abbrev s_law_pairs : Stmt := top 49
abbrev N_law_pairs : List Str := [("_law_first" : Str), ("_law_last" : Str), ("_law_ones" : Str), ("_law_begin" : Str), ("_law_found" : Str), ("_law_pair" : Str), ("_law_end_here" : Str), ("_law_other_pair" : Str)]
theorem sc_law_pairs : FnScope N_law_pairs [("_law_first" : Str), ("_law_last" : Str)] (defScope s_law_pairs) := ⟨rfl, rfl, rfl, by decide +kernel, rfl, by decide +kernel, by decide +kernel⟩
abbrev s_law_parts : Stmt := top 48
abbrev N_law_parts : List Str := [("_law_width" : Str), ("_law_first" : Str), ("_law_last" : Str), ("_law_found" : Str), ("_law_mid" : Str), ("_law_spot" : Str), ("_law_more" : Str), ("_law_rows" : Str), ("_law_each" : Str), ("_law_row" : Str)]
theorem sc_law_parts : FnScope N_law_parts [("_law_width" : Str), ("_law_first" : Str), ("_law_last" : Str)] (defScope s_law_parts) := ⟨rfl, rfl, rfl, by decide +kernel, rfl, by decide +kernel, by decide +kernel⟩
abbrev s_law_words : Stmt := top 40
abbrev N_law_words : List Str := [("_law_pool_here" : Str), ("_law_many" : Str), ("_law_letters" : Str), ("_law_menu" : Str), ("_law_way" : Str), ("_law_begin" : Str), ("_law_stem" : Str), ("_law_at" : Str), ("_law_k" : Str)]
theorem sc_law_words : FnScope N_law_words [("_law_pool_here" : Str), ("_law_many" : Str)] (defScope s_law_words) := ⟨rfl, rfl, rfl, by decide +kernel, rfl, by decide +kernel, by decide +kernel⟩
abbrev s_is_whole : Stmt := top 4
abbrev N_is_whole : List Str := [("thing" : Str), ("least" : Str)]
theorem sc_is_whole : FnScope N_is_whole [("thing" : Str), ("least" : Str)] (defScope s_is_whole) := ⟨rfl, rfl, rfl, by decide +kernel, rfl, by decide +kernel, by decide +kernel⟩
abbrev s_are_stations : Stmt := top 6
abbrev N_are_stations : List Str := [("start" : Str), ("end" : Str)]
theorem sc_are_stations : FnScope N_are_stations [("start" : Str), ("end" : Str)] (defScope s_are_stations) := ⟨rfl, rfl, rfl, by decide +kernel, rfl, by decide +kernel, by decide +kernel⟩
abbrev s_is_tuple_of : Stmt := top 5
abbrev N_is_tuple_of : List Str := [("thing" : Str), ("size" : Str)]
theorem sc_is_tuple_of : FnScope N_is_tuple_of [("thing" : Str), ("size" : Str)] (defScope s_is_tuple_of) := ⟨rfl, rfl, rfl, by decide +kernel, rfl, by decide +kernel, by decide +kernel⟩
abbrev s_is_booked : Stmt := top 7
abbrev N_is_booked : List Str := [("thing" : Str), ("letter" : Str)]
theorem sc_is_booked : FnScope N_is_booked [("thing" : Str)] (defScope s_is_booked) := ⟨rfl, rfl, rfl, by decide +kernel, rfl, by decide +kernel, by decide +kernel⟩
abbrev s_are_of_a_line : Stmt := top 8
abbrev N_are_of_a_line : List Str := [("seats" : Str), ("trips" : Str), ("trip" : Str), ("one" : Str), ("two" : Str)]
theorem sc_are_of_a_line : FnScope N_are_of_a_line [("seats" : Str), ("trips" : Str)] (defScope s_are_of_a_line) := ⟨rfl, rfl, rfl, by decide +kernel, rfl, by decide +kernel, by decide +kernel⟩
abbrev s_overlap : Stmt := top 13
abbrev N_overlap : List Str := [("trip" : Str), ("other" : Str)]
theorem sc_overlap : FnScope N_overlap [("trip" : Str), ("other" : Str)] (defScope s_overlap) := ⟨rfl, rfl, rfl, by decide +kernel, rfl, by decide +kernel, by decide +kernel⟩
abbrev s_is_unoccupied : Stmt := top 15
abbrev N_is_unoccupied : List Str := [("trips" : Str), ("given" : Str), ("seat" : Str), ("start" : Str), ("end" : Str), ("way" : Str), ("trip" : Str), ("worn" : Str)]
theorem sc_is_unoccupied : FnScope N_is_unoccupied [("trips" : Str), ("given" : Str), ("seat" : Str), ("start" : Str), ("end" : Str)] (defScope s_is_unoccupied) := ⟨rfl, rfl, rfl, by decide +kernel, rfl, by decide +kernel, by decide +kernel⟩
abbrev s_is_blocked : Stmt := top 31
abbrev N_is_blocked : List Str := [("seats" : Str), ("trips" : Str), ("given" : Str), ("start" : Str), ("end" : Str), ("pair" : Str), ("seat" : Str)]
theorem sc_is_blocked : FnScope N_is_blocked [("seats" : Str), ("trips" : Str), ("given" : Str), ("start" : Str), ("end" : Str), ("pair" : Str)] (defScope s_is_blocked) := ⟨rfl, rfl, rfl, by decide +kernel, rfl, by decide +kernel, by decide +kernel⟩
abbrev s_is_one_of : Stmt := top 9
abbrev N_is_one_of : List Str := [("thing" : Str), ("seats" : Str)]
theorem sc_is_one_of : FnScope N_is_one_of [("thing" : Str), ("seats" : Str)] (defScope s_is_one_of) := ⟨rfl, rfl, rfl, by decide +kernel, rfl, by decide +kernel, by decide +kernel⟩
abbrev s_is_way : Stmt := top 30
abbrev N_is_way : List Str := [("seats" : Str), ("trips" : Str), ("given" : Str), ("start" : Str), ("triples" : Str), ("station" : Str), ("before" : Str), ("triple" : Str), ("seat" : Str), ("since" : Str), ("until" : Str)]
theorem sc_is_way : FnScope N_is_way [("seats" : Str), ("trips" : Str), ("given" : Str), ("start" : Str), ("triples" : Str)] (defScope s_is_way) := ⟨rfl, rfl, rfl, by decide +kernel, rfl, by decide +kernel, by decide +kernel⟩
abbrev s_place_of : Stmt := top 10
abbrev N_place_of : List Str := [("seats" : Str), ("trips" : Str), ("thing" : Str), ("at" : Str), ("trip" : Str)]
theorem sc_place_of : FnScope N_place_of [("seats" : Str), ("trips" : Str), ("thing" : Str)] (defScope s_place_of) := ⟨rfl, rfl, rfl, by decide +kernel, rfl, by decide +kernel, by decide +kernel⟩
abbrev s_taken_before : Stmt := top 12
abbrev N_taken_before : List Str := [("trips" : Str), ("given" : Str), ("at" : Str), ("seat" : Str), ("other" : Str)]
theorem sc_taken_before : FnScope N_taken_before [("trips" : Str), ("given" : Str), ("at" : Str), ("seat" : Str)] (defScope s_taken_before) := ⟨rfl, rfl, rfl, by decide +kernel, rfl, by decide +kernel, by decide +kernel⟩
abbrev s_seats_given : Stmt := top 11
abbrev N_seats_given : List Str := [("seats" : Str), ("trips" : Str), ("plan" : Str), ("given" : Str), ("at" : Str), ("pair" : Str)]
theorem sc_seats_given : FnScope N_seats_given [("seats" : Str), ("trips" : Str), ("plan" : Str)] (defScope s_seats_given) := ⟨rfl, rfl, rfl, by decide +kernel, rfl, by decide +kernel, by decide +kernel⟩
abbrev s_changes_holds : Stmt := top 29
abbrev N_changes_holds : List Str := [("certificate" : Str), ("seats" : Str), ("trips" : Str), ("plan" : Str), ("start" : Str), ("end" : Str), ("changes" : Str), ("given" : Str), ("triples" : Str), ("pairs" : Str), ("pair" : Str), ("one" : Str), ("two" : Str)]
theorem sc_changes_holds : FnScope N_changes_holds [("certificate" : Str), ("seats" : Str), ("trips" : Str), ("plan" : Str), ("start" : Str), ("end" : Str), ("changes" : Str)] (defScope s_changes_holds) := ⟨rfl, rfl, rfl, by decide +kernel, rfl, by decide +kernel, by decide +kernel⟩
abbrev s_many_on : Stmt := top 14
abbrev N_many_on : List Str := [("trips" : Str), ("stretch" : Str), ("trip" : Str)]
theorem sc_many_on : FnScope N_many_on [("trips" : Str), ("stretch" : Str)] (defScope s_many_on) := ⟨rfl, rfl, rfl, by decide +kernel, rfl, by decide +kernel, by decide +kernel⟩
abbrev s_no_seat_holds : Stmt := top 32
abbrev N_no_seat_holds : List Str := [("certificate" : Str), ("seats" : Str), ("trips" : Str), ("plan" : Str), ("start" : Str), ("end" : Str)]
theorem sc_no_seat_holds : FnScope N_no_seat_holds [("certificate" : Str), ("seats" : Str), ("trips" : Str), ("plan" : Str), ("start" : Str), ("end" : Str)] (defScope s_no_seat_holds) := ⟨rfl, rfl, rfl, by decide +kernel, rfl, by decide +kernel, by decide +kernel⟩
abbrev s_accepts : Stmt := top 35
abbrev N_accepts : List Str := [("claim" : Str), ("certificate" : Str), ("seats" : Str), ("trips" : Str), ("rest" : Str), ("words" : Str), ("judge" : Str), ("word" : Str)]
theorem sc_accepts : FnScope N_accepts [("claim" : Str), ("certificate" : Str)] (defScope s_accepts) := ⟨rfl, rfl, rfl, by decide +kernel, rfl, by decide +kernel, by decide +kernel⟩
abbrev s_law_right : Stmt := top 50
abbrev N_law_right : List Str := [("_law_pool_here" : Str), ("_law_words_here" : Str), ("_law_width" : Str), ("_law_rides" : Str), ("_law_count_here" : Str), ("_law_word" : Str), ("_law_begin" : Str), ("_law_spots" : Str), ("_law_first" : Str), ("_law_last" : Str), ("_law_base" : Str), ("_law_fewest_here" : Str), ("_law_told" : Str), ("_law_parts_here" : Str), ("_law_pairs_here" : Str), ("_law_size" : Str), ("_law_fits" : Str), ("_law_needs" : Str), ("_law_row" : Str), ("_law_place" : Str), ("_law_answer" : Str), ("_law_need" : Str)]
theorem sc_law_right : FnScope N_law_right [("_law_pool_here" : Str)] (defScope s_law_right) := ⟨rfl, rfl, rfl, by decide +kernel, rfl, by decide +kernel, by decide +kernel⟩
abbrev s_law : Stmt := top 51
abbrev N_law : List Str := [("_law_script" : Str), ("_law_k" : Str)]
theorem sc_law : FnScope N_law [("_law_script" : Str)] (defScope s_law) := ⟨rfl, rfl, rfl, by decide +kernel, rfl, by decide +kernel, by decide +kernel⟩
structure Ad where
  CLine : Addr
  a_SIZES : Addr
  e_SIZES : Array DictEntry
  n_SIZES : Nat
  a_JUDGES : Addr
  e_JUDGES : Array DictEntry
  n_JUDGES : Nat
  f_law_cell : Addr
  d_law_cell : FuncData
  f_law_pool : Addr
  d_law_pool : FuncData
  f_law_draw : Addr
  d_law_draw : FuncData
  f_law_by_startS : Addr
  d_law_by_startS : FuncData
  f_law_meet : Addr
  d_law_meet : FuncData
  f_law_choices : Addr
  d_law_choices : FuncData
  f_law_flat : Addr
  d_law_flat : FuncData
  f_law_drawn : Addr
  d_law_drawn : FuncData
  f_law_held : Addr
  d_law_held : FuncData
  f_law_fewest : Addr
  d_law_fewest : FuncData
  f_law_pairs : Addr
  d_law_pairs : FuncData
  f_law_parts : Addr
  d_law_parts : FuncData
  f_law_words : Addr
  d_law_words : FuncData
  f_is_whole : Addr
  d_is_whole : FuncData
  f_are_stations : Addr
  d_are_stations : FuncData
  f_is_tuple_of : Addr
  d_is_tuple_of : FuncData
  f_is_booked : Addr
  d_is_booked : FuncData
  f_are_of_a_line : Addr
  d_are_of_a_line : FuncData
  f_overlap : Addr
  d_overlap : FuncData
  f_is_unoccupied : Addr
  d_is_unoccupied : FuncData
  f_is_blocked : Addr
  d_is_blocked : FuncData
  f_is_one_of : Addr
  d_is_one_of : FuncData
  f_is_way : Addr
  d_is_way : FuncData
  f_place_of : Addr
  d_place_of : FuncData
  f_taken_before : Addr
  d_taken_before : FuncData
  f_seats_given : Addr
  d_seats_given : FuncData
  f_changes_holds : Addr
  d_changes_holds : FuncData
  f_many_on : Addr
  d_many_on : FuncData
  f_no_seat_holds : Addr
  d_no_seat_holds : FuncData
  f_accepts : Addr
  d_accepts : FuncData
  f_law_right : Addr
  d_law_right : FuncData
  f_law : Addr
  d_law : FuncData
structure Tx (w : World) (K : PySem.W.Frag) (mg : Str → Option Value) (a : Ad) : Prop where
  D_SIZES : KDict K w a.a_SIZES a.e_SIZES a.n_SIZES
  ks_SIZES : KeysAre a.e_SIZES.toList [("plan" : Str), ("no plan" : Str), ("route" : Str), ("fixed" : Str), ("not fixed" : Str), ("number" : Str), ("changes" : Str), ("no seat" : Str)]
  g_SIZES : mg "SIZES" = some (.ref a.a_SIZES)
  v_SIZES_plan : ∃ t, PySem.W.nsIn K a.a_SIZES ("plan" : Str) = some (some (.int 1 t))
  v_SIZES_no_plan : ∃ t, PySem.W.nsIn K a.a_SIZES ("no plan" : Str) = some (some (.int 0 t))
  v_SIZES_route : ∃ t, PySem.W.nsIn K a.a_SIZES ("route" : Str) = some (some (.int 2 t))
  v_SIZES_fixed : ∃ t, PySem.W.nsIn K a.a_SIZES ("fixed" : Str) = some (some (.int 1 t))
  v_SIZES_not_fixed : ∃ t, PySem.W.nsIn K a.a_SIZES ("not fixed" : Str) = some (some (.int 1 t))
  v_SIZES_number : ∃ t, PySem.W.nsIn K a.a_SIZES ("number" : Str) = some (some (.int 2 t))
  v_SIZES_changes : ∃ t, PySem.W.nsIn K a.a_SIZES ("changes" : Str) = some (some (.int 4 t))
  v_SIZES_no_seat : ∃ t, PySem.W.nsIn K a.a_SIZES ("no seat" : Str) = some (some (.int 3 t))
  D_JUDGES : KDict K w a.a_JUDGES a.e_JUDGES a.n_JUDGES
  ks_JUDGES : KeysAre a.e_JUDGES.toList [("plan" : Str), ("no plan" : Str), ("route" : Str), ("fixed" : Str), ("not fixed" : Str), ("number" : Str), ("changes" : Str), ("no seat" : Str)]
  g_JUDGES : mg "JUDGES" = some (.ref a.a_JUDGES)
  j_JUDGES_changes : PySem.W.nsIn K a.a_JUDGES ("changes" : Str) = some (some (.ref a.f_changes_holds))
  j_JUDGES_no_seat : PySem.W.nsIn K a.a_JUDGES ("no seat" : Str) = some (some (.ref a.f_no_seat_holds))
  F_law_cell : Fun K "_law_cell" "_law_cell" s_law_cell a.f_law_cell a.d_law_cell
  g__law_cell : mg "_law_cell" = some (.ref a.f_law_cell)
  k__law_cell : PySem.W.keepIn K (.ref a.f_law_cell) = true
  F_law_pool : Fun K "_law_pool" "_law_pool" s_law_pool a.f_law_pool a.d_law_pool
  g__law_pool : mg "_law_pool" = some (.ref a.f_law_pool)
  k__law_pool : PySem.W.keepIn K (.ref a.f_law_pool) = true
  F_law_draw : Fun K "_law_draw" "_law_draw" s_law_draw a.f_law_draw a.d_law_draw
  g__law_draw : mg "_law_draw" = some (.ref a.f_law_draw)
  k__law_draw : PySem.W.keepIn K (.ref a.f_law_draw) = true
  F_law_by_startS : Fun K "_law_by_start" "_law_by_start" s_law_by_startS a.f_law_by_startS a.d_law_by_startS
  g__law_by_start : mg "_law_by_start" = some (.ref a.f_law_by_startS)
  k__law_by_start : PySem.W.keepIn K (.ref a.f_law_by_startS) = true
  F_law_meet : Fun K "_law_meet" "_law_meet" s_law_meet a.f_law_meet a.d_law_meet
  g__law_meet : mg "_law_meet" = some (.ref a.f_law_meet)
  k__law_meet : PySem.W.keepIn K (.ref a.f_law_meet) = true
  F_law_choices : Fun K "_law_choices" "_law_choices" s_law_choices a.f_law_choices a.d_law_choices
  g__law_choices : mg "_law_choices" = some (.ref a.f_law_choices)
  k__law_choices : PySem.W.keepIn K (.ref a.f_law_choices) = true
  F_law_flat : Fun K "_law_flat" "_law_flat" s_law_flat a.f_law_flat a.d_law_flat
  g__law_flat : mg "_law_flat" = some (.ref a.f_law_flat)
  k__law_flat : PySem.W.keepIn K (.ref a.f_law_flat) = true
  F_law_drawn : Fun K "_law_drawn" "_law_drawn" s_law_drawn a.f_law_drawn a.d_law_drawn
  g__law_drawn : mg "_law_drawn" = some (.ref a.f_law_drawn)
  k__law_drawn : PySem.W.keepIn K (.ref a.f_law_drawn) = true
  F_law_held : Fun K "_law_held" "_law_held" s_law_held a.f_law_held a.d_law_held
  g__law_held : mg "_law_held" = some (.ref a.f_law_held)
  k__law_held : PySem.W.keepIn K (.ref a.f_law_held) = true
  F_law_fewest : Fun K "_law_fewest" "_law_fewest" s_law_fewest a.f_law_fewest a.d_law_fewest
  g__law_fewest : mg "_law_fewest" = some (.ref a.f_law_fewest)
  k__law_fewest : PySem.W.keepIn K (.ref a.f_law_fewest) = true
  F_law_pairs : Fun K "_law_pairs" "_law_pairs" s_law_pairs a.f_law_pairs a.d_law_pairs
  g__law_pairs : mg "_law_pairs" = some (.ref a.f_law_pairs)
  k__law_pairs : PySem.W.keepIn K (.ref a.f_law_pairs) = true
  F_law_parts : Fun K "_law_parts" "_law_parts" s_law_parts a.f_law_parts a.d_law_parts
  g__law_parts : mg "_law_parts" = some (.ref a.f_law_parts)
  k__law_parts : PySem.W.keepIn K (.ref a.f_law_parts) = true
  F_law_words : Fun K "_law_words" "_law_words" s_law_words a.f_law_words a.d_law_words
  g__law_words : mg "_law_words" = some (.ref a.f_law_words)
  k__law_words : PySem.W.keepIn K (.ref a.f_law_words) = true
  F_is_whole : Fun K "is_whole" "is_whole" s_is_whole a.f_is_whole a.d_is_whole
  g_is_whole : mg "is_whole" = some (.ref a.f_is_whole)
  k_is_whole : PySem.W.keepIn K (.ref a.f_is_whole) = true
  F_are_stations : Fun K "are_stations" "are_stations" s_are_stations a.f_are_stations a.d_are_stations
  g_are_stations : mg "are_stations" = some (.ref a.f_are_stations)
  k_are_stations : PySem.W.keepIn K (.ref a.f_are_stations) = true
  F_is_tuple_of : Fun K "is_tuple_of" "is_tuple_of" s_is_tuple_of a.f_is_tuple_of a.d_is_tuple_of
  g_is_tuple_of : mg "is_tuple_of" = some (.ref a.f_is_tuple_of)
  k_is_tuple_of : PySem.W.keepIn K (.ref a.f_is_tuple_of) = true
  F_is_booked : Fun K "is_booked" "is_booked" s_is_booked a.f_is_booked a.d_is_booked
  g_is_booked : mg "is_booked" = some (.ref a.f_is_booked)
  k_is_booked : PySem.W.keepIn K (.ref a.f_is_booked) = true
  F_are_of_a_line : Fun K "are_of_a_line" "are_of_a_line" s_are_of_a_line a.f_are_of_a_line a.d_are_of_a_line
  g_are_of_a_line : mg "are_of_a_line" = some (.ref a.f_are_of_a_line)
  k_are_of_a_line : PySem.W.keepIn K (.ref a.f_are_of_a_line) = true
  F_overlap : Fun K "overlap" "overlap" s_overlap a.f_overlap a.d_overlap
  g_overlap : mg "overlap" = some (.ref a.f_overlap)
  k_overlap : PySem.W.keepIn K (.ref a.f_overlap) = true
  F_is_unoccupied : Fun K "is_unoccupied" "is_unoccupied" s_is_unoccupied a.f_is_unoccupied a.d_is_unoccupied
  g_is_unoccupied : mg "is_unoccupied" = some (.ref a.f_is_unoccupied)
  k_is_unoccupied : PySem.W.keepIn K (.ref a.f_is_unoccupied) = true
  F_is_blocked : Fun K "is_blocked" "is_blocked" s_is_blocked a.f_is_blocked a.d_is_blocked
  g_is_blocked : mg "is_blocked" = some (.ref a.f_is_blocked)
  k_is_blocked : PySem.W.keepIn K (.ref a.f_is_blocked) = true
  F_is_one_of : Fun K "is_one_of" "is_one_of" s_is_one_of a.f_is_one_of a.d_is_one_of
  g_is_one_of : mg "is_one_of" = some (.ref a.f_is_one_of)
  k_is_one_of : PySem.W.keepIn K (.ref a.f_is_one_of) = true
  F_is_way : Fun K "is_way" "is_way" s_is_way a.f_is_way a.d_is_way
  g_is_way : mg "is_way" = some (.ref a.f_is_way)
  k_is_way : PySem.W.keepIn K (.ref a.f_is_way) = true
  F_place_of : Fun K "place_of" "place_of" s_place_of a.f_place_of a.d_place_of
  g_place_of : mg "place_of" = some (.ref a.f_place_of)
  k_place_of : PySem.W.keepIn K (.ref a.f_place_of) = true
  F_taken_before : Fun K "taken_before" "taken_before" s_taken_before a.f_taken_before a.d_taken_before
  g_taken_before : mg "taken_before" = some (.ref a.f_taken_before)
  k_taken_before : PySem.W.keepIn K (.ref a.f_taken_before) = true
  F_seats_given : Fun K "seats_given" "seats_given" s_seats_given a.f_seats_given a.d_seats_given
  g_seats_given : mg "seats_given" = some (.ref a.f_seats_given)
  k_seats_given : PySem.W.keepIn K (.ref a.f_seats_given) = true
  F_changes_holds : Fun K "changes_holds" "changes_holds" s_changes_holds a.f_changes_holds a.d_changes_holds
  g_changes_holds : mg "changes_holds" = some (.ref a.f_changes_holds)
  k_changes_holds : PySem.W.keepIn K (.ref a.f_changes_holds) = true
  F_many_on : Fun K "many_on" "many_on" s_many_on a.f_many_on a.d_many_on
  g_many_on : mg "many_on" = some (.ref a.f_many_on)
  k_many_on : PySem.W.keepIn K (.ref a.f_many_on) = true
  F_no_seat_holds : Fun K "no_seat_holds" "no_seat_holds" s_no_seat_holds a.f_no_seat_holds a.d_no_seat_holds
  g_no_seat_holds : mg "no_seat_holds" = some (.ref a.f_no_seat_holds)
  k_no_seat_holds : PySem.W.keepIn K (.ref a.f_no_seat_holds) = true
  F_accepts : Fun K "accepts" "accepts" s_accepts a.f_accepts a.d_accepts
  g_accepts : mg "accepts" = some (.ref a.f_accepts)
  k_accepts : PySem.W.keepIn K (.ref a.f_accepts) = true
  F_law_right : Fun K "_law_right" "_law_right" s_law_right a.f_law_right a.d_law_right
  g__law_right : mg "_law_right" = some (.ref a.f_law_right)
  k__law_right : PySem.W.keepIn K (.ref a.f_law_right) = true
  F_law : Fun K "law" "law" s_law a.f_law a.d_law
  g_law : mg "law" = some (.ref a.f_law)
  k_law : PySem.W.keepIn K (.ref a.f_law) = true
  v_LETTERS : ∃ u, mg "LETTERS" = some u ∧ RelV (.str ("abcdefghijklmnopqrstuvwxyz" : Str)) u
  v_MAX_SEATS : ∃ u, mg "MAX_SEATS" = some u ∧ RelV (.int 20) u
  v_MAX_TRIPS : ∃ u, mg "MAX_TRIPS" = some u ∧ RelV (.int 24) u
  b_abs : mg "abs" = none
  b_all : mg "all" = none
  b_any : mg "any" = none
  b_bool : mg "bool" = none
  b_divmod : mg "divmod" = none
  b_enumerate : mg "enumerate" = none
  b_int : mg "int" = none
  b_isinstance : mg "isinstance" = none
  b_len : mg "len" = none
  b_min : mg "min" = none
  b_range : mg "range" = none
  b_sorted : mg "sorted" = none
  b_str : mg "str" = none
  b_tuple : mg "tuple" = none
  b_zip : mg "zip" = none
section
variable {P : Program} {w : World} {K : PySem.W.Frag} {mg : Str → Option Value} {base : Heap} {a : Ad}
abbrev TT (a : Ad) : List (Addr × Str) := []
theorem bd_law_cell (t : Tx w K mg a) : Binds K a.d_law_cell [("_law_script" : Str), ("_law_k" : Str)] [] := t.F_law_cell.binds fun _ _ _ _ _ _ us hl => match us, hl with | [_, _], _ => rfl
theorem ok_law_cell (t : Tx w K mg a) (tb : True) : FnOk P w K mg base CX0 1 a.f_law_cell a.d_law_cell [("_law_script" : Str), ("_law_k" : Str)] (upSp K (TT a) (sp_law_cell K a.CLine)) :=
  okP t.F_law_cell sc_law_cell (fun _ _ h => len_law_cell h) (by decide) fun cdv A outer s H E hr => ⟨ts_law_cell K a.CLine, zs_cons (z_if (zt_cmp zo_lt (zv 1) (z_callB zc_len (by rfl) t.b_len (by decide +kernel) (za_cons (zv 0) (za_nil)))) (zs_one (z_ret (z_ix (zv 0) (zv 1)))) (zs_nil)) (zs_cons (z_set (i := 2) sc_law_cell.nd rfl (Or.inl rfl) (z_op zo_mod (z_op zo_mulA (z_int) (z_op zo_add (z_op zo_add (z_op zo_mulA (zv 1) (zv 1)) (z_op zo_mulA (z_int) (zv 1))) (z_int))) (z_int))) (zs_cons (z_for PassesOwn.never rfl (zi_list (z_slice (zv 0) (zp_none) (zp_some (z_int)))) (zg_name (i := 3) sc_law_cell.nd rfl (Or.inl rfl)) (zs_one (z_set (i := 2) sc_law_cell.nd rfl (Or.inl rfl) (z_op zo_mod (z_op zo_add (z_op zo_mulA (zv 2) (z_int)) (zv 3)) (z_int))))) (zs_one (z_ret (zv 2))))), fun _ _ h => rd_law_cell h⟩
theorem bd_law_pool (t : Tx w K mg a) : Binds K a.d_law_pool [("_law_cell_here" : Str)] [] := t.F_law_pool.binds fun _ _ _ _ _ _ us hl => match us, hl with | [_], _ => rfl
theorem ok_law_pool (t : Tx w K mg a) (tb : True) : FnOk P w K mg base CX0 1 a.f_law_pool a.d_law_pool [("_law_cell_here" : Str)] (upSpF K (TT a) (sp_law_pool K a.CLine)) :=
  okF t.F_law_pool sc_law_pool (fun _ _ h => len_law_pool h) (by decide) fun cdv A outer s H E hr => ⟨ts_law_pool K a.CLine, zsf_cons (z_set (i := 1) sc_law_pool.nd rfl (Or.inl rfl) (z_int)) (zsf_cons (z_if ((zw_or (zt_cmp zo_lt (zv 0) (z_int)) (zw_or1 (zt_cmp zo_ge (zv 0) (z_op zo_pow (z_int) (z_int))))).pt) (zs_one (z_set (i := 1) sc_law_pool.nd rfl (Or.inl rfl) (z_callB zc_abs (by rfl) t.b_abs (by decide +kernel) (za_cons (zv 0) (za_nil))))) (zs_nil)) (zsf_ret (zf_lst (za_cons (z_op zo_mod (zv 0) (z_int)) (za_cons (zv 1) (za_cons (z_int) (za_nil))))))), fun _ _ h => rd_law_pool h⟩
theorem bd_law_draw (t : Tx w K mg a) : Binds K a.d_law_draw [("_law_pool_here" : Str), ("_law_many" : Str)] [] := t.F_law_draw.binds fun _ _ _ _ _ _ us hl => match us, hl with | [_, _], _ => rfl
theorem ok_law_draw (t : Tx w K mg a) (tb : True) : FnOk P w K mg base CX0 1 a.f_law_draw a.d_law_draw [("_law_pool_here" : Str), ("_law_many" : Str)] (upSpR K (TT a) (sp_law_draw K a.CLine)) :=
  okR (nm := ("_law_pool_here" : Str)) (N := [("_law_many" : Str), ("_law_state" : Str), ("_law_digit" : Str)]) (ps := [("_law_many" : Str)]) t.F_law_draw sc_law_draw (fun _ _ _ h => len_law_draw h) (by decide) fun cdv A outer s H E hr => ⟨ts_law_draw K a.CLine, zs_cons (z_asg (z_op zo_add (z_ixO (pv 0) (z_int)) (z_int)) (zg_sub (pv 0) (z_int) (pg_sub (pv 0) (z_int) set_list))) (zs_cons (z_set (i := 2) sc_law_draw.nd rfl (Or.inl rfl) (z_ixO (pv 0) (z_int))) (zs_cons (z_asg (z_op zo_mod (z_op zo_add (z_op zo_add (z_op zo_mulA (zv 2) (z_op zo_add (z_op zo_mod (zv 2) (z_int)) (z_int))) (z_op zo_mulA (z_int) (z_ixO (pv 0) (z_int)))) (z_int)) (z_int)) (zg_sub (pv 0) (z_int) (pg_sub (pv 0) (z_int) set_list))) (zs_cons (z_if (zt_cmp zo_gt (z_ixO (pv 0) (z_int)) (z_int)) (zs_cons (z_asg (z_callB zc_divmodW (by rfl) t.b_divmod (by decide +kernel) (za_cons (z_ixO (pv 0) (z_int)) (za_cons (zv 1) (za_nil)))) (zg_tup (pg_tup rfl (zgs_cons1 (zg_sub (pv 0) (z_int) (pg_sub (pv 0) (z_int) set_list)) (zgs_cons1 (zg_name (i := 3) sc_law_draw.nd rfl (Or.inl rfl)) (zgs_nil)))))) (zs_one (z_ret (zv 3)))) (zs_nil)) (zs_one (z_ret (z_op zo_mod (z_op zo_div (z_ixO (pv 0) (z_int)) (z_int)) (zv 1))))))), fun _ _ _ h => rd_law_draw h⟩
theorem bd_law_by_startS (t : Tx w K mg a) : Binds K a.d_law_by_startS [("_law_rides" : Str)] [] := t.F_law_by_startS.binds fun _ _ _ _ _ _ us hl => match us, hl with | [_], _ => rfl
theorem ok_law_by_startS (t : Tx w K mg a) (tb : True) : FnOk P w K mg base CX0 1 a.f_law_by_startS a.d_law_by_startS [("_law_rides" : Str)] (upSp K (TT a) (sp_law_by_startS K a.CLine)) :=
  okP t.F_law_by_startS sc_law_by_startS (fun _ _ h => len_law_by_startS h) (by decide) fun cdv A outer s H E hr => ⟨ts_law_by_startS K a.CLine, zs_cons (z_set (i := 1) sc_law_by_startS.nd rfl (Or.inl rfl) (z_callB (zc_sorted hr.units) (by rfl) t.b_sorted (by decide +kernel) (za_cons (z_val (zf_lc (own := [(("_law_ride" : Str), 2)]) (pe_lc (own := [(("_law_ride" : Str), 2)]) rfl sc_law_by_startS.nd (zi_seq (zi_list (zv 0)) (zi_tup (zv 0))) (blkOk_by (own := [(("_law_ride" : Str), 2)]) (N := N_law_by_startS) (sc := defScope s_law_by_startS) (by decide +kernel)) (fun _ _ _ _ _ => zgw_name (by decide) (pg_name (i := 2) sc_law_by_startS.nd rfl (Or.inl rfl))) (fun _ _ _ _ _ => zts_nil) (fun _ _ _ _ _ => z_tup (za_cons (z_ix (zv 2) (z_int)) (za_cons (z_ix (zv 2) (z_int)) (za_cons (zv 2) (za_nil)))))))) (za_nil)))) (zs_one (z_ret (z_val (zf_lc (own := [(("_law_row" : Str), 3)]) (pe_lc (own := [(("_law_row" : Str), 3)]) rfl sc_law_by_startS.nd (zi_list (zv 1)) (blkOk_by (own := [(("_law_row" : Str), 3)]) (N := N_law_by_startS) (sc := defScope s_law_by_startS) (by decide +kernel)) (fun _ _ _ _ _ => zgw_name (by decide) (pg_name (i := 3) sc_law_by_startS.nd rfl (Or.inl rfl))) (fun _ _ _ _ _ => zts_nil) (fun _ _ _ _ _ => z_ix (zv 3) (z_int))))))), fun _ _ h => rd_law_by_startS h⟩
theorem bd_law_meet (t : Tx w K mg a) : Binds K a.d_law_meet [("_law_one_ride" : Str), ("_law_more_ride" : Str)] [] := t.F_law_meet.binds fun _ _ _ _ _ _ us hl => match us, hl with | [_, _], _ => rfl
theorem ok_law_meet (t : Tx w K mg a) (tb : True) : FnOk P w K mg base CX0 1 a.f_law_meet a.d_law_meet [("_law_one_ride" : Str), ("_law_more_ride" : Str)] (upSp K (TT a) (sp_law_meet K a.CLine)) :=
  okP t.F_law_meet sc_law_meet (fun _ _ h => len_law_meet h) (by decide) fun cdv A outer s H E hr => ⟨ts_law_meet K a.CLine, zs_one (z_ret (z_and (z_cmp zo_lt (z_ix (zv 0) (z_int)) (z_ix (zv 1) (z_int))) (z_one (z_cmp zo_lt (z_ix (zv 1) (z_int)) (z_ix (zv 0) (z_int)))))), fun _ _ h => rd_law_meet h⟩
theorem bd_law_choices (t : Tx w K mg a) : Binds K a.d_law_choices [("_law_width" : Str), ("_law_rides" : Str), ("_law_held_here" : Str), ("_law_ride" : Str)] [] := t.F_law_choices.binds fun _ _ _ _ _ _ us hl => match us, hl with | [_, _, _, _], _ => rfl
theorem ok_law_choices (t : Tx w K mg a) (tb : True) : FnOk P w K mg base CX0 2 a.f_law_choices a.d_law_choices [("_law_width" : Str), ("_law_rides" : Str), ("_law_held_here" : Str), ("_law_ride" : Str)] (upSpF K (TT a) (sp_law_choices K a.CLine)) :=
  okF t.F_law_choices sc_law_choices (fun _ _ h => len_law_choices h) (by decide) fun cdv A outer s H E hr => ⟨ts_law_choices K a.CLine, zsf_cons (z_set (i := 4) sc_law_choices.nd rfl (Or.inr rfl) (z_val (zf_lc (own := [(("_law_each" : Str), 5)]) (pe_lc (own := [(("_law_each" : Str), 5)]) rfl sc_law_choices.nd (zi_seq (zi_list (zv 1)) (zi_tup (zv 1))) (blkOk_by (own := [(("_law_each" : Str), 5)]) (N := N_law_choices) (sc := defScope s_law_choices) (by decide +kernel)) (fun _ _ _ _ _ => zgw_name (by decide) (pg_name (i := 5) sc_law_choices.nd rfl (Or.inl rfl))) (fun _ _ _ _ _ => zts_one ((zw_and (zt_cmp (zo_inD (Room.u1 hr)) (z_ix (zv 5) (z_int)) (zv 2)) (zw_and1 (zt_val (z_call (ok_law_meet t tb) (hr.mono (by decide)) (by rfl) t.g__law_meet t.k__law_meet (bd_law_meet t) .nil (fun _ _ => .nil) (za_cons (zv 5) (za_cons (zv 3) (za_nil))))))).pt)) (fun _ _ _ _ _ => z_dget (Room.u1 hr) (zv 2) (z_ix (zv 5) (z_int))))))) (zsf_ret (zf_lc (own := [(("_law_spot" : Str), 6)]) (pe_lc (own := [(("_law_spot" : Str), 6)]) rfl sc_law_choices.nd (zi_range2 (by rfl) t.b_range (z_int) (z_op zo_add (zv 0) (z_int)) rfl rfl (pi_range2 (by rfl) t.b_range (pa_cons (z_int) (pa_cons (z_op zo_add (zv 0) (z_int)) pa_nil)))) (blkOk_by (own := [(("_law_spot" : Str), 6)]) (N := N_law_choices) (sc := defScope s_law_choices) (by decide +kernel)) (fun _ _ _ _ _ => zgw_name (by decide) (pg_name (i := 6) sc_law_choices.nd rfl (Or.inl rfl))) (fun _ _ _ _ _ => zts_one (zt_cmp zo_notInL (zv 6) (zv 4))) (fun _ _ _ _ _ => zv 6)))), fun _ _ h => rd_law_choices h⟩
theorem bd_law_flat (t : Tx w K mg a) : Binds K a.d_law_flat [("_law_held_here" : Str)] [] := t.F_law_flat.binds fun _ _ _ _ _ _ us hl => match us, hl with | [_], _ => rfl
theorem ok_law_flat (t : Tx w K mg a) (tb : True) : FnOk P w K mg base CX0 1 a.f_law_flat a.d_law_flat [("_law_held_here" : Str)] (upSp K (TT a) (sp_law_flat K a.CLine)) :=
  okP t.F_law_flat sc_law_flat (fun _ _ h => len_law_flat h) (by decide) fun cdv A outer s H E hr => ⟨ts_law_flat K a.CLine, zs_one (z_ret (z_callTy zc_tupleK (by rfl) t.b_tuple (by decide +kernel) (za_cons (z_val (zf_lc (own := [(("_law_word" : Str), 1)]) (pe_lc (own := [(("_law_word" : Str), 1)]) rfl sc_law_flat.nd (zi_list (z_callB (zc_sortK rfl) (by rfl) t.b_sorted (by decide +kernel) (za_cons (zv 0) (za_nil)))) (blkOk_by (own := [(("_law_word" : Str), 1)]) (N := N_law_flat) (sc := defScope s_law_flat) (by decide +kernel)) (fun _ _ _ _ _ => zgw_name (by decide) (pg_name (i := 1) sc_law_flat.nd rfl (Or.inl rfl))) (fun _ _ _ _ _ => zts_nil) (fun _ _ _ _ _ => z_tup (za_cons (zv 1) (za_cons (z_dget (Room.u1 hr) (zv 0) (zv 1)) (za_nil))))))) (za_nil)))), fun _ _ h => rd_law_flat h⟩
theorem bd_law_drawn (t : Tx w K mg a) : Binds K a.d_law_drawn [("_law_pool_here" : Str), ("_law_width" : Str), ("_law_rides" : Str)] [] := t.F_law_drawn.binds fun _ _ _ _ _ _ us hl => match us, hl with | [_, _, _], _ => rfl
theorem ok_law_drawn (t : Tx w K mg a) (tb : True) : FnOk P w K mg base CX0 3 a.f_law_drawn a.d_law_drawn [("_law_pool_here" : Str), ("_law_width" : Str), ("_law_rides" : Str)] (upSpR K (TT a) (sp_law_drawn K a.CLine)) :=
  okR (nm := ("_law_pool_here" : Str)) (N := [("_law_width" : Str), ("_law_rides" : Str), ("_law_held_here" : Str), ("_law_ride" : Str), ("_law_spots" : Str)]) (ps := [("_law_width" : Str), ("_law_rides" : Str)]) t.F_law_drawn sc_law_drawn (fun _ _ _ h => len_law_drawn h) (by decide) fun cdv A outer s H E hr => ⟨ts_law_drawn K a.CLine, zs_cons (z_setFD (i := 3) sc_law_drawn.nd rfl (Or.inl rfl) (zd_dic0)) (zs_cons (z_for PassesOwn.never rfl (zi_list (z_call (ok_law_by_startS t tb) (hr.mono (by decide)) (by rfl) t.g__law_by_start t.k__law_by_start (bd_law_by_startS t) .nil (fun _ _ => .nil) (za_cons (zv 2) (za_nil)))) (zg_name (i := 4) sc_law_drawn.nd rfl (Or.inl rfl)) (zs_cons (z_set (i := 5) sc_law_drawn.nd rfl (Or.inl rfl) (z_val (z_callFB (ok_law_choices t tb) (hr.mono (by decide)) (by rfl) t.g__law_choices t.k__law_choices (bd_law_choices t) (zb_v (zv 1) (zb_v (zv 2) (zb_b (pv 3) (zb_v (zv 4) (zb_nil)))))))) (zs_cons (z_if (zt_cmp (zo_eq hr.units) (zv 5) (z_lst (za_nil))) (zs_one (z_ret (z_non))) (zs_nil)) (zs_one (z_dput (Room.u1 hr) (pv 3) (z_ix (zv 4) (z_int)) (z_ix (zv 5) (z_callR (ok_law_draw t tb) (hr.mono (by decide)) (by rfl) t.g__law_draw t.k__law_draw (bd_law_draw t) (pa_cons (pv 0) (za_cons (z_callB zc_len (by rfl) t.b_len (by decide +kernel) (za_cons (zv 5) (za_nil))) (za_nil)))))))))) (zs_one (z_ret (z_callB' (ok_law_flat t tb) (hr.mono (by decide)) (by rfl) t.g__law_flat t.k__law_flat (bd_law_flat t) (zb_b (pv 3) (zb_nil)))))), fun _ _ _ h => rd_law_drawn h⟩
theorem bd_law_held (t : Tx w K mg a) : Binds K a.d_law_held [("_law_spots" : Str)] [] := t.F_law_held.binds fun _ _ _ _ _ _ us hl => match us, hl with | [_], _ => rfl
theorem ok_law_held (t : Tx w K mg a) (tb : True) : FnOk P w K mg base CX0 1 a.f_law_held a.d_law_held [("_law_spots" : Str)] (upSp K (TT a) (sp_law_held K a.CLine)) :=
  okP t.F_law_held sc_law_held (fun _ _ h => len_law_held h) (by decide) fun cdv A outer s H E hr => ⟨ts_law_held K a.CLine, zs_cons (z_setFD (i := 1) sc_law_held.nd rfl (Or.inl rfl) (zd_dic0)) (zs_cons (z_for PassesOwn.never rfl (zi_tup (zvK 0)) (zg_tup (pg_tup rfl (zgs_cons1 (zg_name (i := 2) sc_law_held.nd rfl (Or.inl rfl)) (zgs_cons1 (zg_name (i := 3) sc_law_held.nd rfl (Or.inl rfl)) (zgs_nil))))) (zs_one (z_dput (Room.u1 hr) (pv 1) (zv 2) (zv 3)))) (zs_one (z_ret (zv 1)))), fun _ _ h => rd_law_held h⟩
theorem bd_law_fewest (t : Tx w K mg a) : Binds K a.d_law_fewest [("_law_width" : Str), ("_law_rides" : Str), ("_law_spots" : Str), ("_law_first" : Str), ("_law_last" : Str)] [] := t.F_law_fewest.binds fun _ _ _ _ _ _ us hl => match us, hl with | [_, _, _, _, _], _ => rfl
theorem ok_law_fewest (t : Tx w K mg a) (tb : True) : FnOk P w K mg base CX0 2 a.f_law_fewest a.d_law_fewest [("_law_width" : Str), ("_law_rides" : Str), ("_law_spots" : Str), ("_law_first" : Str), ("_law_last" : Str)] (upSp K (TT a) (sp_law_fewest K a.CLine)) :=
  okP t.F_law_fewest sc_law_fewest (fun _ _ h => len_law_fewest h) (by decide) fun cdv A outer s H E hr => ⟨ts_law_fewest K a.CLine, zs_cons (z_asg (z_tup (za_cons (z_call (ok_law_held t tb) (hr.mono (by decide)) (by rfl) t.g__law_held t.k__law_held (bd_law_held t) .nil (fun _ _ => .nil) (za_cons (zv 2) (za_nil))) (za_cons (z_dic0) (za_nil)))) (zg_tup (pg_tup rfl (zgs_cons1 (zg_name (i := 5) sc_law_fewest.nd rfl (Or.inr rfl)) (zgs_cons1 (zg_name (i := 6) sc_law_fewest.nd rfl (Or.inr rfl)) (zgs_nil)))))) (zs_cons (z_for PassesOwn.never rfl (zi_range2 (by rfl) t.b_range (zv 3) (zv 4) rfl rfl (pi_range2 (by rfl) t.b_range (pa_cons (zv 3) (pa_cons (zv 4) pa_nil)))) (zg_name (i := 7) sc_law_fewest.nd rfl (Or.inr rfl)) (zs_cons (z_set (i := 8) sc_law_fewest.nd rfl (Or.inr rfl) (z_val (zf_lc (own := [(("_law_ride" : Str), 12)]) (pe_lc (own := [(("_law_ride" : Str), 12)]) rfl sc_law_fewest.nd (zi_tup (zv 1)) (blkOk_by (own := [(("_law_ride" : Str), 12)]) (N := N_law_fewest) (sc := defScope s_law_fewest) (by decide +kernel)) (fun _ _ _ _ _ => zgw_name (by decide) (pg_name (i := 12) sc_law_fewest.nd rfl (Or.inl rfl))) (fun _ _ _ _ _ => zts_one (zt_chain zo_le zo_lt (z_ix (zv 12) (z_int)) (zv 7) (z_ix (zv 12) (z_int)))) (fun _ _ _ _ _ => z_dget (Room.u1 hr) (zv 5) (z_ix (zv 12) (z_int))))))) (zs_cons (z_setFD (i := 9) sc_law_fewest.nd rfl (Or.inl rfl) (zd_dic0)) (zs_cons (z_for PassesOwn.never rfl (zi_list (z_val (zf_lc (own := [(("_law_spot" : Str), 10)]) (pe_lc (own := [(("_law_spot" : Str), 10)]) rfl sc_law_fewest.nd (zi_range2 (by rfl) t.b_range (z_int) (z_op zo_add (zv 0) (z_int)) rfl rfl (pi_range2 (by rfl) t.b_range (pa_cons (z_int) (pa_cons (z_op zo_add (zv 0) (z_int)) pa_nil)))) (blkOk_by (own := [(("_law_spot" : Str), 10)]) (N := N_law_fewest) (sc := defScope s_law_fewest) (by decide +kernel)) (fun _ _ _ _ _ => zgw_name (by decide) (pg_name (i := 10) sc_law_fewest.nd rfl (Or.inl rfl))) (fun _ _ _ _ _ => zts_one (zt_cmp zo_notInL (zv 10) (zv 8))) (fun _ _ _ _ _ => zv 10))))) (zg_name (i := 10) sc_law_fewest.nd rfl (Or.inr rfl)) (zs_cons (z_set (i := 11) sc_law_fewest.nd rfl (Or.inl rfl) (z_ifExp (zt_cmp zo_gt (zv 7) (zv 3)) (z_val (z_dcomp (delt_more 6 13 10) (pe_lc (own := [(("_law_each" : Str), 13)]) rfl sc_law_fewest.nd (pi_keys (pv 6)) (blkOk_by (own := [(("_law_each" : Str), 13)]) (N := N_law_fewest) (sc := defScope s_law_fewest) (by decide +kernel)) (fun _ _ _ _ _ => pg_name (i := 13) sc_law_fewest.nd rfl (Or.inl rfl)) (fun _ _ _ _ _ => pts_nil) (fun _ _ _ _ _ => (pe_op op_add (pe_dget (Room.u1 hr) (pv 6) (pv 13) (fun _ _ => rfl)) (pe_callTy call_int1 (by rfl) t.b_int (by decide +kernel) (pa_cons (pe_cmpR op_ne (pv 13) (pv 10) (by first | exact nomark _ | rfl)) pa_nil))))))) (z_lst (za_cons (z_int) (za_nil))))) (zs_one (z_if (zt_cmp (zo_ne hr.units) (zv 11) (z_lst (za_nil))) (zs_one (z_dput (Room.u1 hr) (pv 9) (zv 10) (z_callB (zc_minL rfl) (by rfl) t.b_min (by decide +kernel) (za_cons (zv 11) (za_nil))))) (zs_nil))))) (zs_one (z_set (i := 6) sc_law_fewest.nd rfl (Or.inr rfl) (zv 9))))))) (zs_one (z_ret (z_ifExp (zt_cmp (zo_neD0 (Nat.lt_of_le_of_lt (Nat.le_add_right _ _) hr.units)) (zv 6) (z_dic0)) (z_callB (zc_minL rfl) (by rfl) t.b_min (by decide +kernel) (za_cons (z_val (z_dcomp (delt_val 6 10 3) (pe_lc (own := [(("_law_spot" : Str), 10)]) rfl sc_law_fewest.nd (pi_keys (pv 6)) (blkOk_by (own := [(("_law_spot" : Str), 10)]) (N := N_law_fewest) (sc := defScope s_law_fewest) (by decide +kernel)) (fun _ _ _ _ _ => pg_name (i := 10) sc_law_fewest.nd rfl (Or.inl rfl)) (fun _ _ _ _ _ => pts_nil) (fun _ _ _ _ _ => (pe_dget (Room.u1 hr) (pv 6) (pv 10) (fun _ _ => rfl)))))) (za_nil))) (z_non))))), fun _ _ h => rd_law_fewest h⟩
theorem bd_law_pairs (t : Tx w K mg a) : Binds K a.d_law_pairs [("_law_first" : Str), ("_law_last" : Str)] [] := t.F_law_pairs.binds fun _ _ _ _ _ _ us hl => match us, hl with | [_, _], _ => rfl
theorem ok_law_pairs (t : Tx w K mg a) (tb : True) : FnOk P w K mg base CX0 1 a.f_law_pairs a.d_law_pairs [("_law_first" : Str), ("_law_last" : Str)] (upSp K (TT a) (sp_law_pairs K a.CLine)) :=
  okP t.F_law_pairs sc_law_pairs (fun _ _ h => len_law_pairs h) (by decide) fun cdv A outer s H E hr => ⟨ts_law_pairs K a.CLine, zs_cons (z_set (i := 2) sc_law_pairs.nd rfl (Or.inl rfl) (z_lst (za_nil))) (zs_cons (z_for PassesOwn.never rfl (zi_range2 (by rfl) t.b_range (zv 0) (zv 1) rfl rfl (pi_range2 (by rfl) t.b_range (pa_cons (zv 0) (pa_cons (zv 1) pa_nil)))) (zg_name (i := 3) sc_law_pairs.nd rfl (Or.inr rfl)) (zs_one (z_set (i := 2) sc_law_pairs.nd rfl (Or.inl rfl) (z_op zo_add (zv 2) (z_val (zf_lc (own := [(("_law_end_here" : Str), 6)]) (pe_lc (own := [(("_law_end_here" : Str), 6)]) rfl sc_law_pairs.nd (zi_range2 (by rfl) t.b_range (z_op zo_add (zv 3) (z_int)) (z_op zo_add (zv 1) (z_int)) rfl rfl (pi_range2 (by rfl) t.b_range (pa_cons (z_op zo_add (zv 3) (z_int)) (pa_cons (z_op zo_add (zv 1) (z_int)) pa_nil)))) (blkOk_by (own := [(("_law_end_here" : Str), 6)]) (N := N_law_pairs) (sc := defScope s_law_pairs) (by decide +kernel)) (fun _ _ _ _ _ => zgw_name (by decide) (pg_name (i := 6) sc_law_pairs.nd rfl (Or.inl rfl))) (fun _ _ _ _ _ => zts_nil) (fun _ _ _ _ _ => z_tup (za_cons (zv 3) (za_cons (zv 6) (za_nil))))))))))) (zs_cons (z_set (i := 4) sc_law_pairs.nd rfl (Or.inl rfl) (z_op zo_add (z_lst (za_cons (z_tup (za_nil)) (za_nil))) (z_val (zf_lc (own := [(("_law_pair" : Str), 5)]) (pe_lc (own := [(("_law_pair" : Str), 5)]) rfl sc_law_pairs.nd (zi_list (zv 2)) (blkOk_by (own := [(("_law_pair" : Str), 5)]) (N := N_law_pairs) (sc := defScope s_law_pairs) (by decide +kernel)) (fun _ _ _ _ _ => zgw_name (by decide) (pg_name (i := 5) sc_law_pairs.nd rfl (Or.inl rfl))) (fun _ _ _ _ _ => zts_nil) (fun _ _ _ _ _ => z_tup (za_cons (zv 5) (za_nil)))))))) (zs_cons (z_for PassesOwn.never rfl (zi_list (zv 2)) (zg_name (i := 5) sc_law_pairs.nd rfl (Or.inr rfl)) (zs_one (z_set (i := 4) sc_law_pairs.nd rfl (Or.inl rfl) (z_op zo_add (zv 4) (z_val (zf_lc (own := [(("_law_other_pair" : Str), 7)]) (pe_lc (own := [(("_law_other_pair" : Str), 7)]) rfl sc_law_pairs.nd (zi_list (zv 2)) (blkOk_by (own := [(("_law_other_pair" : Str), 7)]) (N := N_law_pairs) (sc := defScope s_law_pairs) (by decide +kernel)) (fun _ _ _ _ _ => zgw_name (by decide) (pg_name (i := 7) sc_law_pairs.nd rfl (Or.inl rfl))) (fun _ _ _ _ _ => zts_one (zt_cmp (zo_gtT2 (Nat.lt_of_le_of_lt (Nat.le_add_right _ _) hr.units)) (zv 7) (zv 5))) (fun _ _ _ _ _ => z_tup (za_cons (zv 5) (za_cons (zv 7) (za_nil))))))))))) (zs_one (z_ret (zv 4)))))), fun _ _ h => rd_law_pairs h⟩
theorem bd_law_parts (t : Tx w K mg a) : Binds K a.d_law_parts [("_law_width" : Str), ("_law_first" : Str), ("_law_last" : Str)] [] := t.F_law_parts.binds fun _ _ _ _ _ _ us hl => match us, hl with | [_, _, _], _ => rfl
theorem ok_law_parts (t : Tx w K mg a) (tb : True) : FnOk P w K mg base CX0 1 a.f_law_parts a.d_law_parts [("_law_width" : Str), ("_law_first" : Str), ("_law_last" : Str)] (upSp K (TT a) (sp_law_parts K a.CLine)) :=
  okP t.F_law_parts sc_law_parts (fun _ _ h => len_law_parts h) (by decide) fun cdv A outer s H E hr => ⟨ts_law_parts K a.CLine, zs_cons (z_setLc (own := [(("_law_spot" : Str), 5)]) (i := 3) (ps_setLc (own := [(("_law_spot" : Str), 5)]) rfl sc_law_parts.nd (i := 3) rfl rfl rfl (zi_range2 (by rfl) t.b_range (z_int) (z_op zo_add (zv 0) (z_int)) rfl rfl (pi_range2 (by rfl) t.b_range (pa_cons (z_int) (pa_cons (z_op zo_add (zv 0) (z_int)) pa_nil)))) (blkOk_by (own := [(("_law_spot" : Str), 5)]) (N := N_law_parts) (sc := defScope s_law_parts) (by decide +kernel)) (fun _ _ _ _ _ => zgw_name (by decide) (pg_name (i := 5) sc_law_parts.nd rfl (Or.inl rfl))) (fun _ _ _ _ _ => zts_nil) (fun _ _ _ _ _ => z_tup (za_cons (z_tup (za_cons (zv 5) (za_cons (zv 1) (za_cons (zv 2) (za_nil))))) (za_nil))))) (zs_cons (z_for PassesOwn.never rfl (zi_range2 (by rfl) t.b_range (z_op zo_add (zv 1) (z_int)) (zv 2) rfl rfl (pi_range2 (by rfl) t.b_range (pa_cons (z_op zo_add (zv 1) (z_int)) (pa_cons (zv 2) pa_nil)))) (zg_name (i := 4) sc_law_parts.nd rfl (Or.inr rfl)) (zs_cons (z_for PassesOwn.never rfl (zi_range2 (by rfl) t.b_range (z_int) (z_op zo_add (zv 0) (z_int)) rfl rfl (pi_range2 (by rfl) t.b_range (pa_cons (z_int) (pa_cons (z_op zo_add (zv 0) (z_int)) pa_nil)))) (zg_name (i := 5) sc_law_parts.nd rfl (Or.inr rfl)) (zs_one (z_set (i := 3) sc_law_parts.nd rfl (Or.inl rfl) (z_op zo_add (zv 3) (z_val (zf_lc (own := [(("_law_each" : Str), 8)]) (pe_lc (own := [(("_law_each" : Str), 8)]) rfl sc_law_parts.nd (zi_range2 (by rfl) t.b_range (z_int) (z_op zo_add (zv 0) (z_int)) rfl rfl (pi_range2 (by rfl) t.b_range (pa_cons (z_int) (pa_cons (z_op zo_add (zv 0) (z_int)) pa_nil)))) (blkOk_by (own := [(("_law_each" : Str), 8)]) (N := N_law_parts) (sc := defScope s_law_parts) (by decide +kernel)) (fun _ _ _ _ _ => zgw_name (by decide) (pg_name (i := 8) sc_law_parts.nd rfl (Or.inl rfl))) (fun _ _ _ _ _ => zts_nil) (fun _ _ _ _ _ => z_tup (za_cons (z_tup (za_cons (zv 5) (za_cons (zv 1) (za_cons (zv 4) (za_nil))))) (za_cons (z_tup (za_cons (zv 8) (za_cons (zv 4) (za_cons (zv 2) (za_nil))))) (za_nil))))))))))) (zs_one (z_for PassesOwn.never rfl (zi_range2 (by rfl) t.b_range (z_op zo_add (zv 4) (z_int)) (zv 2) rfl rfl (pi_range2 (by rfl) t.b_range (pa_cons (z_op zo_add (zv 4) (z_int)) (pa_cons (zv 2) pa_nil)))) (zg_name (i := 6) sc_law_parts.nd rfl (Or.inr rfl)) (zs_cons (z_set (i := 7) sc_law_parts.nd rfl (Or.inl rfl) (z_lst (za_cons (z_tup (za_cons (z_int) (za_cons (z_int) (za_cons (z_int) (za_nil))))) (za_cons (z_tup (za_cons (z_int) (za_cons (z_int) (za_cons (z_int) (za_nil))))) (za_cons (z_tup (za_cons (z_int) (za_cons (z_int) (za_cons (z_int) (za_nil))))) (za_cons (z_tup (za_cons (z_int) (za_cons (z_int) (za_cons (z_int) (za_nil))))) (za_cons (z_tup (za_cons (z_int) (za_cons (z_int) (za_cons (z_int) (za_nil))))) (za_nil)))))))) (zs_one (z_set (i := 3) sc_law_parts.nd rfl (Or.inl rfl) (z_op zo_add (zv 3) (z_val (zf_lc (own := [(("_law_row" : Str), 9)]) (pe_lc (own := [(("_law_row" : Str), 9)]) rfl sc_law_parts.nd (zi_list (zv 7)) (blkOk_by (own := [(("_law_row" : Str), 9)]) (N := N_law_parts) (sc := defScope s_law_parts) (by decide +kernel)) (fun _ _ _ _ _ => zgw_name (by decide) (pg_name (i := 9) sc_law_parts.nd rfl (Or.inl rfl))) (fun _ _ _ _ _ => zts_nil) (fun _ _ _ _ _ => z_tup (za_cons (z_tup (za_cons (z_ix (zv 9) (z_int)) (za_cons (zv 1) (za_cons (zv 4) (za_nil))))) (za_cons (z_tup (za_cons (z_ix (zv 9) (z_int)) (za_cons (zv 4) (za_cons (zv 6) (za_nil))))) (za_cons (z_tup (za_cons (z_ix (zv 9) (z_int)) (za_cons (zv 6) (za_cons (zv 2) (za_nil))))) (za_nil)))))))))))))))) (zs_one (z_ret (zv 3)))), fun _ _ h => rd_law_parts h⟩
theorem bd_law_words (t : Tx w K mg a) : Binds K a.d_law_words [("_law_pool_here" : Str), ("_law_many" : Str)] [] := t.F_law_words.binds fun _ _ _ _ _ _ us hl => match us, hl with | [_, _], _ => rfl
theorem ok_law_words (t : Tx w K mg a) (tb : True) : FnOk P w K mg base CX0 2 a.f_law_words a.d_law_words [("_law_pool_here" : Str), ("_law_many" : Str)] (upSpR K (TT a) (sp_law_words K a.CLine)) :=
  okR (nm := ("_law_pool_here" : Str)) (N := [("_law_many" : Str), ("_law_letters" : Str), ("_law_menu" : Str), ("_law_way" : Str), ("_law_begin" : Str), ("_law_stem" : Str), ("_law_at" : Str), ("_law_k" : Str)]) (ps := [("_law_many" : Str)]) t.F_law_words sc_law_words (fun _ _ _ h => len_law_words h) (by decide) fun cdv A outer s H E hr => ⟨ts_law_words K a.CLine, zs_cons (z_set (i := 2) sc_law_words.nd rfl (Or.inr rfl) (z_str)) (zs_cons (z_set (i := 3) sc_law_words.nd rfl (Or.inr rfl) (z_lst (za_cons (z_str) (za_cons (z_str) (za_cons (z_str) (za_cons (z_str) (za_cons (z_str) (za_cons (z_str) (za_cons (z_str) (za_cons (z_str) (za_cons (z_str) (za_cons (z_str) (za_cons (z_str) (za_cons (z_str) (za_nil))))))))))))))) (zs_cons (z_set (i := 3) sc_law_words.nd rfl (Or.inr rfl) (z_op zo_add (zv 3) (z_lst (za_cons (z_str) (za_cons (z_str) (za_cons (z_str) (za_cons (z_str) (za_cons (z_str) (za_cons (z_str) (za_cons (z_str) (za_cons (z_str) (za_cons (z_str) (za_cons (z_str) (za_cons (z_str) (za_cons (z_str) (za_nil)))))))))))))))) (zs_cons (z_asg (z_tup (za_cons (z_callR (ok_law_draw t tb) (hr.mono (by decide)) (by rfl) t.g__law_draw t.k__law_draw (bd_law_draw t) (pa_cons (pv 0) (za_cons (z_int) (za_nil)))) (za_cons (z_callR (ok_law_draw t tb) (hr.mono (by decide)) (by rfl) t.g__law_draw t.k__law_draw (bd_law_draw t) (pa_cons (pv 0) (za_cons (z_int) (za_nil)))) (za_nil)))) (zg_tup (pg_tup rfl (zgs_cons1 (zg_name (i := 4) sc_law_words.nd rfl (Or.inl rfl)) (zgs_cons1 (zg_name (i := 5) sc_law_words.nd rfl (Or.inr rfl)) (zgs_nil)))))) (zs_cons (z_if (zt_cmp (zo_eq hr.units) (zv 4) (z_int)) (zs_one (z_ret (z_val (zf_lc (own := [(("_law_k" : Str), 8)]) (pe_lc (own := [(("_law_k" : Str), 8)]) rfl sc_law_words.nd (zi_range1 (by rfl) t.b_range (zv 1)) (blkOk_by (own := [(("_law_k" : Str), 8)]) (N := N_law_words) (sc := defScope s_law_words) (by decide +kernel)) (fun _ _ _ _ _ => zgw_name (by decide) (pg_name (i := 8) sc_law_words.nd rfl (Or.inl rfl))) (fun _ _ _ _ _ => zts_nil) (fun _ _ _ _ _ => z_ix (zv 3) (z_op zo_mod (z_op zo_add (zv 5) (z_op zo_mulA (z_int) (zv 8))) (z_int)))))))) (zs_nil)) (zs_cons (z_if (zt_cmp (zo_eq hr.units) (zv 4) (z_int)) (zs_one (z_ret (z_val (zf_lc (own := [(("_law_k" : Str), 8)]) (pe_lc (own := [(("_law_k" : Str), 8)]) rfl sc_law_words.nd (zi_range1 (by rfl) t.b_range (zv 1)) (blkOk_by (own := [(("_law_k" : Str), 8)]) (N := N_law_words) (sc := defScope s_law_words) (by decide +kernel)) (fun _ _ _ _ _ => zgw_name (by decide) (pg_name (i := 8) sc_law_words.nd rfl (Or.inl rfl))) (fun _ _ _ _ _ => zts_nil) (fun _ _ _ _ _ => z_op zo_mulA (z_ix (zv 2) (z_op zo_mod (z_op zo_add (zv 5) (z_op zo_mulA (z_int) (zv 8))) (z_int))) (z_op zo_add (z_int) (z_op zo_mod (zv 8) (z_int))))))))) (zs_nil)) (zs_cons (z_set (i := 6) sc_law_words.nd rfl (Or.inr rfl) (z_join rfl (pe_join (z_str) (z_val (zf_lc (own := [(("_law_k" : Str), 8)]) (pe_lc (own := [(("_law_k" : Str), 8)]) rfl sc_law_words.nd (zi_range1 (by rfl) t.b_range (z_callR (ok_law_draw t tb) (hr.mono (by decide)) (by rfl) t.g__law_draw t.k__law_draw (bd_law_draw t) (pa_cons (pv 0) (za_cons (z_int) (za_nil))))) (blkOk_by (own := [(("_law_k" : Str), 8)]) (N := N_law_words) (sc := defScope s_law_words) (by decide +kernel)) (fun _ _ _ _ _ => zgw_name (by decide) (pg_name (i := 8) sc_law_words.nd rfl (Or.inl rfl))) (fun _ _ _ _ _ => zts_nil) (fun _ _ _ _ _ => z_ix (zv 2) (z_callR (ok_law_draw t tb) (hr.mono (by decide)) (by rfl) t.g__law_draw t.k__law_draw (bd_law_draw t) (pa_cons (pv 0) (za_cons (z_int) (za_nil))))))))))) (zs_cons (z_set (i := 7) sc_law_words.nd rfl (Or.inr rfl) (z_callR (ok_law_draw t tb) (hr.mono (by decide)) (by rfl) t.g__law_draw t.k__law_draw (bd_law_draw t) (pa_cons (pv 0) (za_cons (z_op zo_add (z_callB zc_len (by rfl) t.b_len (by decide +kernel) (za_cons (zv 6) (za_nil))) (z_int)) (za_nil))))) (zs_one (z_ret (z_val (zf_lc (own := [(("_law_k" : Str), 8)]) (pe_lc (own := [(("_law_k" : Str), 8)]) rfl sc_law_words.nd (zi_range1 (by rfl) t.b_range (zv 1)) (blkOk_by (own := [(("_law_k" : Str), 8)]) (N := N_law_words) (sc := defScope s_law_words) (by decide +kernel)) (fun _ _ _ _ _ => zgw_name (by decide) (pg_name (i := 8) sc_law_words.nd rfl (Or.inl rfl))) (fun _ _ _ _ _ => zts_nil) (fun _ _ _ _ _ => z_op zo_add (z_op zo_add (z_slice (zv 6) (zp_none) (zp_some (zv 7))) (z_ix (zv 2) (z_op zo_mod (z_op zo_add (zv 5) (z_op zo_mulA (z_int) (zv 8))) (z_int)))) (z_slice (zv 6) (zp_some (zv 7)) (zp_none))))))))))))))), fun _ _ _ h => rd_law_words h⟩
theorem bd_is_whole (t : Tx w K mg a) : Binds K a.d_is_whole [("thing" : Str), ("least" : Str)] [] := t.F_is_whole.binds fun _ _ _ _ _ _ us hl => match us, hl with | [_, _], _ => rfl
theorem ok_is_whole (t : Tx w K mg a) (tb : True) : FnOk P w K mg base CX0 1 a.f_is_whole a.d_is_whole [("thing" : Str), ("least" : Str)] (upSp K (TT a) (sp_is_whole K a.CLine)) :=
  okP t.F_is_whole sc_is_whole (fun _ _ h => len_is_whole h) (by decide) fun cdv A outer s H E hr => ⟨ts_is_whole K a.CLine, zs_one (z_ret (z_and (z_callB zc_isi (by rfl) t.b_isinstance (by decide +kernel) (za_cons (zv 0) (za_cons (z_ty (by rfl) t.b_int (by decide +kernel)) (za_nil)))) (z_and (z_not (z_callB zc_isi (by rfl) t.b_isinstance (by decide +kernel) (za_cons (zv 0) (za_cons (z_ty (by rfl) t.b_bool (by decide +kernel)) (za_nil))))) (z_one (z_cmp zo_ge (zv 0) (zv 1)))))), fun _ _ h => rd_is_whole h⟩
theorem bd_are_stations (t : Tx w K mg a) : Binds K a.d_are_stations [("start" : Str), ("end" : Str)] [] := t.F_are_stations.binds fun _ _ _ _ _ _ us hl => match us, hl with | [_, _], _ => rfl
theorem ok_are_stations (t : Tx w K mg a) (tb : True) : FnOk P w K mg base CX0 2 a.f_are_stations a.d_are_stations [("start" : Str), ("end" : Str)] (upSp K (TT a) (sp_are_stations K a.CLine)) :=
  okP t.F_are_stations sc_are_stations (fun _ _ h => len_are_stations h) (by decide) fun cdv A outer s H E hr => ⟨ts_are_stations K a.CLine, zs_one (z_ret (z_and (z_call (ok_is_whole t tb) (hr.mono (by decide)) (by rfl) t.g_is_whole t.k_is_whole (bd_is_whole t) .nil (fun _ _ => .nil) (za_cons (zv 0) (za_cons (z_int) (za_nil)))) (z_and (z_call (ok_is_whole t tb) (hr.mono (by decide)) (by rfl) t.g_is_whole t.k_is_whole (bd_is_whole t) .nil (fun _ _ => .nil) (za_cons (zv 1) (za_cons (z_int) (za_nil)))) (z_one (z_cmp zo_lt (zv 0) (zv 1)))))), fun _ _ h => rd_are_stations h⟩
theorem bd_is_tuple_of (t : Tx w K mg a) : Binds K a.d_is_tuple_of [("thing" : Str), ("size" : Str)] [] := t.F_is_tuple_of.binds fun _ _ _ _ _ _ us hl => match us, hl with | [_, _], _ => rfl
theorem ok_is_tuple_of (t : Tx w K mg a) (tb : True) : FnOk P w K mg base CX0 1 a.f_is_tuple_of a.d_is_tuple_of [("thing" : Str), ("size" : Str)] (upSp K (TT a) (sp_is_tuple_of K a.CLine)) :=
  okP t.F_is_tuple_of sc_is_tuple_of (fun _ _ h => len_is_tuple_of h) (by decide) fun cdv A outer s H E hr => ⟨ts_is_tuple_of K a.CLine, zs_one (z_ret (z_and (z_callB zc_isi (by rfl) t.b_isinstance (by decide +kernel) (za_cons (zv 0) (za_cons (z_ty (by rfl) t.b_tuple (by decide +kernel)) (za_nil)))) (z_one (z_cmp zo_eqI (z_callB zc_len (by rfl) t.b_len (by decide +kernel) (za_cons (zv 0) (za_nil))) (zv 1))))), fun _ _ h => rd_is_tuple_of h⟩
theorem bd_is_booked (t : Tx w K mg a) : Binds K a.d_is_booked [("thing" : Str)] [] := t.F_is_booked.binds fun _ _ _ _ _ _ us hl => match us, hl with | [_], _ => rfl
theorem ok_is_booked (t : Tx w K mg a) (tb : True) : FnOk P w K mg base CX0 3 a.f_is_booked a.d_is_booked [("thing" : Str)] (upSp K (TT a) (sp_is_booked K a.CLine)) :=
  okP t.F_is_booked sc_is_booked (fun _ _ h => len_is_booked h) (by decide) fun cdv A outer s H E hr => ⟨ts_is_booked K a.CLine, zs_cons (z_if ((zw_or (zt_not (zt_val (z_call (ok_is_tuple_of t tb) (hr.mono (by decide)) (by rfl) t.g_is_tuple_of t.k_is_tuple_of (bd_is_tuple_of t) .nil (fun _ _ => .nil) (za_cons (zv 0) (za_cons (z_int) (za_nil)))))) (zw_or (zt_not (zt_val (z_callB zc_isi (by rfl) t.b_isinstance (by decide +kernel) (za_cons (z_ix (zv 0) (z_int)) (za_cons (z_ty (by rfl) t.b_str (by decide +kernel)) (za_nil)))))) (zw_or1 (zt_not (zt_chain zo_le zo_le (z_int) (z_callB zc_len (by rfl) t.b_len (by decide +kernel) (za_cons (z_ix (zv 0) (z_int)) (za_nil))) (z_int)))))).pt) (zs_one (z_ret (z_bl))) (zs_nil)) (zs_one (z_ret (z_and (z_callB (zc_all rfl) (by rfl) t.b_all (by decide +kernel) (za_cons (z_val (zf_lc (own := [(("letter" : Str), 1)]) (pe_lc (own := [(("letter" : Str), 1)]) rfl sc_is_booked.nd (zi_str (z_ix (zv 0) (z_int))) (blkOk_by (own := [(("letter" : Str), 1)]) (N := N_is_booked) (sc := defScope s_is_booked) (by decide +kernel)) (fun _ _ _ _ _ => zgw_name (by decide) (pg_name (i := 1) sc_is_booked.nd rfl (Or.inl rfl))) (fun _ _ _ _ _ => zts_nil) (fun _ _ _ _ _ => z_cmp zo_in (zv 1) (z_gs (by rfl) t.v_LETTERS))))) (za_nil))) (z_one (z_call (ok_are_stations t tb) (hr.mono (by decide)) (by rfl) t.g_are_stations t.k_are_stations (bd_are_stations t) .nil (fun _ _ => .nil) (za_cons (z_ix (zv 0) (z_int)) (za_cons (z_ix (zv 0) (z_int)) (za_nil)))))))), fun _ _ h => rd_is_booked h⟩
theorem bd_are_of_a_line (t : Tx w K mg a) : Binds K a.d_are_of_a_line [("seats" : Str), ("trips" : Str)] [] := t.F_are_of_a_line.binds fun _ _ _ _ _ _ us hl => match us, hl with | [_, _], _ => rfl
theorem ok_are_of_a_line (t : Tx w K mg a) (tb : True) : FnOk P w K mg base CX0 4 a.f_are_of_a_line a.d_are_of_a_line [("seats" : Str), ("trips" : Str)] (upSp K (TT a) (sp_are_of_a_line K a.CLine)) :=
  okP t.F_are_of_a_line sc_are_of_a_line (fun _ _ h => len_are_of_a_line h) (by decide) fun cdv A outer s H E hr => ⟨ts_are_of_a_line K a.CLine, zs_cons (z_if ((zw_or (zt_not (zt_val (z_call (ok_is_whole t tb) (hr.mono (by decide)) (by rfl) t.g_is_whole t.k_is_whole (bd_is_whole t) .nil (fun _ _ => .nil) (za_cons (zv 0) (za_cons (z_int) (za_nil)))))) (zw_or1 (zt_cmp zo_gt (zv 0) (z_gi (by rfl) t.v_MAX_SEATS)))).pt) (zs_one (z_ret (z_bl))) (zs_nil)) (zs_cons (z_if ((zw_or (zt_not (zt_val (z_callB zc_isi (by rfl) t.b_isinstance (by decide +kernel) (za_cons (zv 1) (za_cons (z_ty (by rfl) t.b_tuple (by decide +kernel)) (za_nil)))))) (zw_or (zt_cmp zo_gt (z_callB zc_len (by rfl) t.b_len (by decide +kernel) (za_cons (zv 1) (za_nil))) (z_gi (by rfl) t.v_MAX_TRIPS)) (zw_or1 (zt_not (zt_val (z_callB (zc_all rfl) (by rfl) t.b_all (by decide +kernel) (za_cons (z_val (zf_lc (own := [(("trip" : Str), 2)]) (pe_lc (own := [(("trip" : Str), 2)]) rfl sc_are_of_a_line.nd (zi_tup (zv 1)) (blkOk_by (own := [(("trip" : Str), 2)]) (N := N_are_of_a_line) (sc := defScope s_are_of_a_line) (by decide +kernel)) (fun _ _ _ _ _ => zgw_name (by decide) (pg_name (i := 2) sc_are_of_a_line.nd rfl (Or.inl rfl))) (fun _ _ _ _ _ => zts_nil) (fun _ _ _ _ _ => z_call (ok_is_booked t tb) (hr.mono (by decide)) (by rfl) t.g_is_booked t.k_is_booked (bd_is_booked t) .nil (fun _ _ => .nil) (za_cons (zv 2) (za_nil)))))) (za_nil)))))))).pt) (zs_one (z_ret (z_bl))) (zs_nil)) (zs_one (z_ret (z_callB (zc_all rfl) (by rfl) t.b_all (by decide +kernel) (za_cons (z_val (zf_lc (own := [(("one" : Str), 3), (("two" : Str), 4)]) (pe_lc (own := [(("one" : Str), 3), (("two" : Str), 4)]) rfl sc_are_of_a_line.nd (zi_zip (by rfl) t.b_zip (za_cons (zv 1) (za_cons (z_sliceA (zv 1) (zp_some (z_int)) (zp_none)) (za_nil)))) (blkOk_by (own := [(("one" : Str), 3), (("two" : Str), 4)]) (N := N_are_of_a_line) (sc := defScope s_are_of_a_line) (by decide +kernel)) (fun _ _ _ _ _ => zgw_tup (pg_tup rfl (zgsw_cons (pgs_cons (zgw_name (by decide) (pg_name (i := 3) sc_are_of_a_line.nd rfl (Or.inl rfl))) (zgsw_cons (pgs_cons (zgw_name (by decide) (pg_name (i := 4) sc_are_of_a_line.nd rfl (Or.inl rfl))) (zgsw_nil))))))) (fun _ _ _ _ _ => zts_nil) (fun _ _ _ _ _ => z_cmp zo_lt (z_ix (zv 3) (z_int)) (z_ix (zv 4) (z_int)))))) (za_nil)))))), fun _ _ h => rd_are_of_a_line h⟩
theorem bd_overlap (t : Tx w K mg a) : Binds K a.d_overlap [("trip" : Str), ("other" : Str)] [] := t.F_overlap.binds fun _ _ _ _ _ _ us hl => match us, hl with | [_, _], _ => rfl
theorem ok_overlap (t : Tx w K mg a) (tb : True) : FnOk P w K mg base CX0 1 a.f_overlap a.d_overlap [("trip" : Str), ("other" : Str)] (upSp K (TT a) (sp_overlap K a.CLine)) :=
  okP t.F_overlap sc_overlap (fun _ _ h => len_overlap h) (by decide) fun cdv A outer s H E hr => ⟨ts_overlap K a.CLine, zs_one (z_ret (z_and (z_cmp zo_lt (z_ix (zv 0) (z_int)) (z_ix (zv 1) (z_int))) (z_one (z_cmp zo_lt (z_ix (zv 1) (z_int)) (z_ix (zv 0) (z_int)))))), fun _ _ h => rd_overlap h⟩
theorem bd_is_unoccupied (t : Tx w K mg a) : Binds K a.d_is_unoccupied [("trips" : Str), ("given" : Str), ("seat" : Str), ("start" : Str), ("end" : Str)] [] := t.F_is_unoccupied.binds fun _ _ _ _ _ _ us hl => match us, hl with | [_, _, _, _, _], _ => rfl
theorem ok_is_unoccupied (t : Tx w K mg a) (tb : True) : FnOk P w K mg base CX0 2 a.f_is_unoccupied a.d_is_unoccupied [("trips" : Str), ("given" : Str), ("seat" : Str), ("start" : Str), ("end" : Str)] (upSp K (TT a) (sp_is_unoccupied K a.CLine)) :=
  okP t.F_is_unoccupied sc_is_unoccupied (fun _ _ h => len_is_unoccupied h) (by decide) fun cdv A outer s H E hr => ⟨ts_is_unoccupied K a.CLine, zs_cons (z_set (i := 5) sc_is_unoccupied.nd rfl (Or.inr rfl) (z_tup (za_cons (z_str) (za_cons (zv 3) (za_cons (zv 4) (za_nil)))))) (zs_one (z_ret (z_not (z_callB (zc_any rfl) (by rfl) t.b_any (by decide +kernel) (za_cons (z_val (zf_lc (own := [(("trip" : Str), 6), (("worn" : Str), 7)]) (pe_lc (own := [(("trip" : Str), 6), (("worn" : Str), 7)]) rfl sc_is_unoccupied.nd (zi_zipM (by rfl) t.b_zip (za_cons (zv 0) (za_cons (zv 1) (za_nil)))) (blkOk_by (own := [(("trip" : Str), 6), (("worn" : Str), 7)]) (N := N_is_unoccupied) (sc := defScope s_is_unoccupied) (by decide +kernel)) (fun _ _ _ _ _ => zgw_tup (pg_tup rfl (zgsw_cons (pgs_cons (zgw_name (by decide) (pg_name (i := 6) sc_is_unoccupied.nd rfl (Or.inl rfl))) (zgsw_cons (pgs_cons (zgw_name (by decide) (pg_name (i := 7) sc_is_unoccupied.nd rfl (Or.inl rfl))) (zgsw_nil))))))) (fun _ _ _ _ _ => zts_nil) (fun _ _ _ _ _ => z_and (z_cmp zo_eqI (zv 7) (zv 2)) (z_one (z_call (ok_overlap t tb) (hr.mono (by decide)) (by rfl) t.g_overlap t.k_overlap (bd_overlap t) .nil (fun _ _ => .nil) (za_cons (zv 6) (za_cons (zv 5) (za_nil))))))))) (za_nil)))))), fun _ _ h => rd_is_unoccupied h⟩
theorem bd_is_blocked (t : Tx w K mg a) : Binds K a.d_is_blocked [("seats" : Str), ("trips" : Str), ("given" : Str), ("start" : Str), ("end" : Str), ("pair" : Str)] [] := t.F_is_blocked.binds fun _ _ _ _ _ _ us hl => match us, hl with | [_, _, _, _, _, _], _ => rfl
theorem ok_is_blocked (t : Tx w K mg a) (tb : True) : FnOk P w K mg base CX0 3 a.f_is_blocked a.d_is_blocked [("seats" : Str), ("trips" : Str), ("given" : Str), ("start" : Str), ("end" : Str), ("pair" : Str)] (upSp K (TT a) (sp_is_blocked K a.CLine)) :=
  okP t.F_is_blocked sc_is_blocked (fun _ _ h => len_is_blocked h) (by decide) fun cdv A outer s H E hr => ⟨ts_is_blocked K a.CLine, zs_cons (z_if ((zw_or (zt_not (zt_val (z_call (ok_is_tuple_of t tb) (hr.mono (by decide)) (by rfl) t.g_is_tuple_of t.k_is_tuple_of (bd_is_tuple_of t) .nil (fun _ _ => .nil) (za_cons (zv 5) (za_cons (z_int) (za_nil)))))) (zw_or (zt_not (zt_val (z_call (ok_are_stations t tb) (hr.mono (by decide)) (by rfl) t.g_are_stations t.k_are_stations (bd_are_stations t) .nil (fun _ _ => .nil) (za_cons (z_ix (zv 5) (z_int)) (za_cons (z_ix (zv 5) (z_int)) (za_nil)))))) (zw_or (zt_cmp zo_lt (z_ix (zv 5) (z_int)) (zv 3)) (zw_or1 (zt_cmp zo_gt (z_ix (zv 5) (z_int)) (zv 4)))))).pt) (zs_one (z_ret (z_bl))) (zs_nil)) (zs_one (z_ret (z_not (z_callB (zc_any rfl) (by rfl) t.b_any (by decide +kernel) (za_cons (z_val (zf_lc (own := [(("seat" : Str), 6)]) (pe_lc (own := [(("seat" : Str), 6)]) rfl sc_is_blocked.nd (zi_range2 (by rfl) t.b_range (z_int) (z_op zo_add (zv 0) (z_int)) rfl rfl (pi_range2 (by rfl) t.b_range (pa_cons (z_int) (pa_cons (z_op zo_add (zv 0) (z_int)) pa_nil)))) (blkOk_by (own := [(("seat" : Str), 6)]) (N := N_is_blocked) (sc := defScope s_is_blocked) (by decide +kernel)) (fun _ _ _ _ _ => zgw_name (by decide) (pg_name (i := 6) sc_is_blocked.nd rfl (Or.inl rfl))) (fun _ _ _ _ _ => zts_nil) (fun _ _ _ _ _ => z_call (ok_is_unoccupied t tb) (hr.mono (by decide)) (by rfl) t.g_is_unoccupied t.k_is_unoccupied (bd_is_unoccupied t) .nil (fun _ _ => .nil) (za_cons (zv 1) (za_cons (zv 2) (za_cons (zv 6) (za_cons (z_ix (zv 5) (z_int)) (za_cons (z_ix (zv 5) (z_int)) (za_nil)))))))))) (za_nil)))))), fun _ _ h => rd_is_blocked h⟩
theorem bd_is_one_of (t : Tx w K mg a) : Binds K a.d_is_one_of [("thing" : Str), ("seats" : Str)] [] := t.F_is_one_of.binds fun _ _ _ _ _ _ us hl => match us, hl with | [_, _], _ => rfl
theorem ok_is_one_of (t : Tx w K mg a) (tb : True) : FnOk P w K mg base CX0 2 a.f_is_one_of a.d_is_one_of [("thing" : Str), ("seats" : Str)] (upSp K (TT a) (sp_is_one_of K a.CLine)) :=
  okP t.F_is_one_of sc_is_one_of (fun _ _ h => len_is_one_of h) (by decide) fun cdv A outer s H E hr => ⟨ts_is_one_of K a.CLine, zs_one (z_ret (z_and (z_call (ok_is_whole t tb) (hr.mono (by decide)) (by rfl) t.g_is_whole t.k_is_whole (bd_is_whole t) .nil (fun _ _ => .nil) (za_cons (zv 0) (za_cons (z_int) (za_nil)))) (z_one (z_cmp zo_le (zv 0) (zv 1))))), fun _ _ h => rd_is_one_of h⟩
theorem bd_is_way (t : Tx w K mg a) : Binds K a.d_is_way [("seats" : Str), ("trips" : Str), ("given" : Str), ("start" : Str), ("triples" : Str)] [] := t.F_is_way.binds fun _ _ _ _ _ _ us hl => match us, hl with | [_, _, _, _, _], _ => rfl
theorem ok_is_way (t : Tx w K mg a) (tb : True) : FnOk P w K mg base CX0 3 a.f_is_way a.d_is_way [("seats" : Str), ("trips" : Str), ("given" : Str), ("start" : Str), ("triples" : Str)] (upSp K (TT a) (sp_is_way K a.CLine)) :=
  okP t.F_is_way sc_is_way (fun _ _ h => len_is_way h) (by decide) fun cdv A outer s H E hr => ⟨ts_is_way K a.CLine, zs_cons (z_set (i := 5) sc_is_way.nd rfl (Or.inl rfl) (zv 3)) (zs_cons (z_set (i := 6) sc_is_way.nd rfl (Or.inl rfl) (z_non)) (zs_cons (z_for PassesOwn.never rfl (zi_tup (zv 4)) (zg_name (i := 7) sc_is_way.nd rfl (Or.inl rfl)) (zs_cons (z_if ((zw_or (zt_not (zt_val (z_call (ok_is_tuple_of t tb) (hr.mono (by decide)) (by rfl) t.g_is_tuple_of t.k_is_tuple_of (bd_is_tuple_of t) .nil (fun _ _ => .nil) (za_cons (zv 7) (za_cons (z_int) (za_nil)))))) (zw_or (zt_not (zt_val (z_call (ok_is_one_of t tb) (hr.mono (by decide)) (by rfl) t.g_is_one_of t.k_is_one_of (bd_is_one_of t) .nil (fun _ _ => .nil) (za_cons (z_ix (zv 7) (z_int)) (za_cons (zv 0) (za_nil)))))) (zw_or1 (zt_not (zt_val (z_call (ok_are_stations t tb) (hr.mono (by decide)) (by rfl) t.g_are_stations t.k_are_stations (bd_are_stations t) .nil (fun _ _ => .nil) (za_cons (z_ix (zv 7) (z_int)) (za_cons (z_ix (zv 7) (z_int)) (za_nil))))))))).pt) (zs_one (z_ret (z_bl))) (zs_nil)) (zs_cons (z_asg (zv 7) (zg_tup (pg_tup rfl (zgs_cons1 (zg_name (i := 8) sc_is_way.nd rfl (Or.inl rfl)) (zgs_cons1 (zg_name (i := 9) sc_is_way.nd rfl (Or.inl rfl)) (zgs_cons1 (zg_name (i := 10) sc_is_way.nd rfl (Or.inl rfl)) (zgs_nil))))))) (zs_cons (z_if ((zw_or (zt_cmp zo_neI (zv 9) (zv 5)) (zw_or (zt_cmp (zo_eq hr.units) (zv 8) (zv 6)) (zw_or1 (zt_not (zt_val (z_call (ok_is_unoccupied t tb) (hr.mono (by decide)) (by rfl) t.g_is_unoccupied t.k_is_unoccupied (bd_is_unoccupied t) .nil (fun _ _ => .nil) (za_cons (zv 1) (za_cons (zv 2) (za_cons (zv 8) (za_cons (zv 9) (za_cons (zv 10) (za_nil)))))))))))).pt) (zs_one (z_ret (z_bl))) (zs_nil)) (zs_cons (z_set (i := 5) sc_is_way.nd rfl (Or.inl rfl) (zv 10)) (zs_one (z_set (i := 6) sc_is_way.nd rfl (Or.inl rfl) (zv 8)))))))) (zs_one (z_ret (z_bl))))), fun _ _ h => rd_is_way h⟩
theorem bd_place_of (t : Tx w K mg a) : Binds K a.d_place_of [("seats" : Str), ("trips" : Str), ("thing" : Str)] [] := t.F_place_of.binds fun _ _ _ _ _ _ us hl => match us, hl with | [_, _, _], _ => rfl
theorem ok_place_of (t : Tx w K mg a) (tb : True) : FnOk P w K mg base CX0 3 a.f_place_of a.d_place_of [("seats" : Str), ("trips" : Str), ("thing" : Str)] (upSp K (TT a) (sp_place_of K a.CLine)) :=
  okP t.F_place_of sc_place_of (fun _ _ h => len_place_of h) (by decide) fun cdv A outer s H E hr => ⟨ts_place_of K a.CLine, zs_cons (z_if ((zw_or (zt_not (zt_val (z_call (ok_is_tuple_of t tb) (hr.mono (by decide)) (by rfl) t.g_is_tuple_of t.k_is_tuple_of (bd_is_tuple_of t) .nil (fun _ _ => .nil) (za_cons (zv 2) (za_cons (z_int) (za_nil)))))) (zw_or (zt_not (zt_val (z_callB zc_isi (by rfl) t.b_isinstance (by decide +kernel) (za_cons (z_ix (zv 2) (z_int)) (za_cons (z_ty (by rfl) t.b_str (by decide +kernel)) (za_nil)))))) (zw_or1 (zt_not (zt_val (z_call (ok_is_one_of t tb) (hr.mono (by decide)) (by rfl) t.g_is_one_of t.k_is_one_of (bd_is_one_of t) .nil (fun _ _ => .nil) (za_cons (z_ix (zv 2) (z_int)) (za_cons (zv 0) (za_nil))))))))).pt) (zs_one (z_ret (z_non))) (zs_nil)) (zs_cons (z_for PassesOwn.never rfl (zi_enum1 (by rfl) t.b_enumerate (zv 1)) (zg_tup (pg_tup rfl (zgs_cons1 (zg_name (i := 3) sc_place_of.nd rfl (Or.inl rfl)) (zgs_cons1 (zg_name (i := 4) sc_place_of.nd rfl (Or.inl rfl)) (zgs_nil))))) (zs_one (z_if (zt_cmp zo_eqI (z_ix (zv 4) (z_int)) (z_ix (zv 2) (z_int))) (zs_one (z_ret (zv 3))) (zs_nil)))) (zs_one (z_ret (z_non)))), fun _ _ h => rd_place_of h⟩
theorem bd_taken_before (t : Tx w K mg a) : Binds K a.d_taken_before [("trips" : Str), ("given" : Str), ("at" : Str), ("seat" : Str)] [] := t.F_taken_before.binds fun _ _ _ _ _ _ us hl => match us, hl with | [_, _, _, _], _ => rfl
theorem ok_taken_before (t : Tx w K mg a) (tb : True) : FnOk P w K mg base CX0 2 a.f_taken_before a.d_taken_before [("trips" : Str), ("given" : Str), ("at" : Str), ("seat" : Str)] (upSp K (TT a) (sp_taken_before K a.CLine)) :=
  okP t.F_taken_before sc_taken_before (fun _ _ h => len_taken_before h) (by decide) fun cdv A outer s H E hr => ⟨ts_taken_before K a.CLine, zs_one (z_ret (z_callB (zc_any rfl) (by rfl) t.b_any (by decide +kernel) (za_cons (z_val (zf_lc (own := [(("other" : Str), 4)]) (pe_lc (own := [(("other" : Str), 4)]) rfl sc_taken_before.nd (zi_range1 (by rfl) t.b_range (zv 2)) (blkOk_by (own := [(("other" : Str), 4)]) (N := N_taken_before) (sc := defScope s_taken_before) (by decide +kernel)) (fun _ _ _ _ _ => zgw_name (by decide) (pg_name (i := 4) sc_taken_before.nd rfl (Or.inl rfl))) (fun _ _ _ _ _ => zts_nil) (fun _ _ _ _ _ => z_and (z_cmp zo_eqI (z_ix (zv 1) (zv 4)) (zv 3)) (z_one (z_call (ok_overlap t tb) (hr.mono (by decide)) (by rfl) t.g_overlap t.k_overlap (bd_overlap t) .nil (fun _ _ => .nil) (za_cons (z_ix (zv 0) (zv 4)) (za_cons (z_ix (zv 0) (zv 2)) (za_nil))))))))) (za_nil)))), fun _ _ h => rd_taken_before h⟩
theorem bd_seats_given (t : Tx w K mg a) : Binds K a.d_seats_given [("seats" : Str), ("trips" : Str), ("plan" : Str)] [] := t.F_seats_given.binds fun _ _ _ _ _ _ us hl => match us, hl with | [_, _, _], _ => rfl
theorem ok_seats_given (t : Tx w K mg a) (tb : True) : FnOk P w K mg base CX0 4 a.f_seats_given a.d_seats_given [("seats" : Str), ("trips" : Str), ("plan" : Str)] (upSp K (TT a) (sp_seats_given K a.CLine)) :=
  okP t.F_seats_given sc_seats_given (fun _ _ h => len_seats_given h) (by decide) fun cdv A outer s H E hr => ⟨ts_seats_given K a.CLine, zs_cons (z_if (zt_not (zt_val (z_call (ok_is_tuple_of t tb) (hr.mono (by decide)) (by rfl) t.g_is_tuple_of t.k_is_tuple_of (bd_is_tuple_of t) .nil (fun _ _ => .nil) (za_cons (zvK 2) (za_cons (z_callB zc_len (by rfl) t.b_len (by decide +kernel) (za_cons (zv 1) (za_nil))) (za_nil)))))) (zs_one (z_ret (z_non))) (zs_nil)) (zs_cons (z_setF (i := 3) sc_seats_given.nd rfl (Or.inl rfl) (zf_lst (za_nil))) (zs_cons (z_for PassesOwn.never rfl (zi_enum1 (by rfl) t.b_enumerate (zvK 2)) (zg_tup (pg_tup rfl (zgs_cons1 (zg_name (i := 4) sc_seats_given.nd rfl (Or.inl rfl)) (zgs_cons1 (zg_name (i := 5) sc_seats_given.nd rfl (Or.inl rfl)) (zgs_nil))))) (zs_cons (z_if ((zw_or (zt_cmp (zo_ne hr.units) (z_call (ok_place_of t tb) (hr.mono (by decide)) (by rfl) t.g_place_of t.k_place_of (bd_place_of t) .nil (fun _ _ => .nil) (za_cons (zv 0) (za_cons (zv 1) (za_cons (zv 5) (za_nil))))) (zv 4)) (zw_or1 (zt_val (z_callB' (ok_taken_before t tb) (hr.mono (by decide)) (by rfl) t.g_taken_before t.k_taken_before (bd_taken_before t) (zb_v (zv 1) (zb_b (pv 3) (zb_v (zv 4) (zb_v (z_ix (zv 5) (z_int)) (zb_nil))))))))).pt) (zs_one (z_ret (z_non))) (zs_nil)) (zs_one (z_app rfl (ps_expr (pe_bm PySem.F.plainAttrs_list PySem.F.slot_list_append PySem.F.type_list_append mt_append (pv 3) (pa_cons (z_ix (zv 5) (z_int)) pa_nil))))))) (zs_one (z_ret (zv 3))))), fun _ _ h => rd_seats_given h⟩
theorem bd_changes_holds (t : Tx w K mg a) : Binds K a.d_changes_holds [("certificate" : Str), ("seats" : Str), ("trips" : Str), ("plan" : Str), ("start" : Str), ("end" : Str), ("changes" : Str)] [] := t.F_changes_holds.binds fun _ _ _ _ _ _ us hl => match us, hl with | [_, _, _, _, _, _, _], _ => rfl
theorem ok_changes_holds (t : Tx w K mg a) (tb : True) : FnOk P w K mg base CX0 5 a.f_changes_holds a.d_changes_holds [("certificate" : Str), ("seats" : Str), ("trips" : Str), ("plan" : Str), ("start" : Str), ("end" : Str), ("changes" : Str)] (upSp K (TT a) (sp_changes_holds K a.CLine)) :=
  okP t.F_changes_holds sc_changes_holds (fun _ _ h => len_changes_holds h) (by decide) fun cdv A outer s H E hr => ⟨ts_changes_holds K a.CLine, zs_cons (z_set (i := 7) sc_changes_holds.nd rfl (Or.inr rfl) (z_call (ok_seats_given t tb) (hr.mono (by decide)) (by rfl) t.g_seats_given t.k_seats_given (bd_seats_given t) .nil (fun _ _ => .nil) (za_cons (zv 1) (za_cons (zv 2) (za_cons (zvK 3) (za_nil)))))) (zs_cons (z_if ((zw_or (zt_cmp zo_is (zv 7) (z_non)) (zw_or (zt_not (zt_val (z_call (ok_are_stations t tb) (hr.mono (by decide)) (by rfl) t.g_are_stations t.k_are_stations (bd_are_stations t) .nil (fun _ _ => .nil) (za_cons (zv 4) (za_cons (zv 5) (za_nil)))))) (zw_or (zt_not (zt_val (z_call (ok_is_whole t tb) (hr.mono (by decide)) (by rfl) t.g_is_whole t.k_is_whole (bd_is_whole t) .nil (fun _ _ => .nil) (za_cons (zv 6) (za_cons (z_int) (za_nil)))))) (zw_or1 (zt_not (zt_val (z_call (ok_is_tuple_of t tb) (hr.mono (by decide)) (by rfl) t.g_is_tuple_of t.k_is_tuple_of (bd_is_tuple_of t) .nil (fun _ _ => .nil) (za_cons (zv 0) (za_cons (z_int) (za_nil)))))))))).pt) (zs_one (z_ret (z_bl))) (zs_nil)) (zs_cons (z_asg (zv 0) (zg_tup (pg_tup rfl (zgs_cons1 (zg_name (i := 8) sc_changes_holds.nd rfl (Or.inl rfl)) (zgs_cons1 (zg_name (i := 9) sc_changes_holds.nd rfl (Or.inl rfl)) (zgs_nil)))))) (zs_cons (z_if ((zw_or (zt_not (zt_val (z_call (ok_is_tuple_of t tb) (hr.mono (by decide)) (by rfl) t.g_is_tuple_of t.k_is_tuple_of (bd_is_tuple_of t) .nil (fun _ _ => .nil) (za_cons (zv 8) (za_cons (z_op zo_add (zv 6) (z_int)) (za_nil)))))) (zw_or1 (zt_not (zt_val (z_call (ok_is_tuple_of t tb) (hr.mono (by decide)) (by rfl) t.g_is_tuple_of t.k_is_tuple_of (bd_is_tuple_of t) .nil (fun _ _ => .nil) (za_cons (zv 9) (za_cons (zv 6) (za_nil)))))))).pt) (zs_one (z_ret (z_bl))) (zs_nil)) (zs_cons (z_if ((zw_or (zt_not (zt_val (z_call (ok_is_way t tb) (hr.mono (by decide)) (by rfl) t.g_is_way t.k_is_way (bd_is_way t) .nil (fun _ _ => .nil) (za_cons (zv 1) (za_cons (zv 2) (za_cons (zv 7) (za_cons (zv 4) (za_cons (zv 8) (za_nil))))))))) (zw_or1 (zt_cmp zo_neI (z_ix (z_ix (zv 8) (z_neg (z_int))) (z_int)) (zv 5)))).pt) (zs_one (z_ret (z_bl))) (zs_nil)) (zs_cons (z_if (zt_not (zt_val (z_callB (zc_all rfl) (by rfl) t.b_all (by decide +kernel) (za_cons (z_val (zf_lc (own := [(("pair" : Str), 10)]) (pe_lc (own := [(("pair" : Str), 10)]) rfl sc_changes_holds.nd (zi_tup (zv 9)) (blkOk_by (own := [(("pair" : Str), 10)]) (N := N_changes_holds) (sc := defScope s_changes_holds) (by decide +kernel)) (fun _ _ _ _ _ => zgw_name (by decide) (pg_name (i := 10) sc_changes_holds.nd rfl (Or.inl rfl))) (fun _ _ _ _ _ => zts_nil) (fun _ _ _ _ _ => z_call (ok_is_blocked t tb) (hr.mono (by decide)) (by rfl) t.g_is_blocked t.k_is_blocked (bd_is_blocked t) .nil (fun _ _ => .nil) (za_cons (zv 1) (za_cons (zv 2) (za_cons (zv 7) (za_cons (zv 4) (za_cons (zv 5) (za_cons (zv 10) (za_nil))))))))))) (za_nil))))) (zs_one (z_ret (z_bl))) (zs_nil)) (zs_one (z_ret (z_callB (zc_all rfl) (by rfl) t.b_all (by decide +kernel) (za_cons (z_val (zf_lc (own := [(("one" : Str), 11), (("two" : Str), 12)]) (pe_lc (own := [(("one" : Str), 11), (("two" : Str), 12)]) rfl sc_changes_holds.nd (zi_zip (by rfl) t.b_zip (za_cons (zv 9) (za_cons (z_sliceA (zv 9) (zp_some (z_int)) (zp_none)) (za_nil)))) (blkOk_by (own := [(("one" : Str), 11), (("two" : Str), 12)]) (N := N_changes_holds) (sc := defScope s_changes_holds) (by decide +kernel)) (fun _ _ _ _ _ => zgw_tup (pg_tup rfl (zgsw_cons (pgs_cons (zgw_name (by decide) (pg_name (i := 11) sc_changes_holds.nd rfl (Or.inl rfl))) (zgsw_cons (pgs_cons (zgw_name (by decide) (pg_name (i := 12) sc_changes_holds.nd rfl (Or.inl rfl))) (zgsw_nil))))))) (fun _ _ _ _ _ => zts_nil) (fun _ _ _ _ _ => z_and (z_cmp (zo_ltT2 (Nat.lt_of_le_of_lt (Nat.le_add_right _ _) hr.units)) (zv 11) (zv 12)) (z_one (z_cmp zo_le (z_ix (zv 11) (z_int)) (z_op zo_add (z_ix (zv 12) (z_int)) (z_int)))))))) (za_nil)))))))))), fun _ _ h => rd_changes_holds h⟩
theorem bd_many_on (t : Tx w K mg a) : Binds K a.d_many_on [("trips" : Str), ("stretch" : Str)] [] := t.F_many_on.binds fun _ _ _ _ _ _ us hl => match us, hl with | [_, _], _ => rfl
theorem ok_many_on (t : Tx w K mg a) (tb : True) : FnOk P w K mg base CX0 1 a.f_many_on a.d_many_on [("trips" : Str), ("stretch" : Str)] (upSp K (TT a) (sp_many_on K a.CLine)) :=
  okP t.F_many_on sc_many_on (fun _ _ h => len_many_on h) (by decide) fun cdv A outer s H E hr => ⟨ts_many_on K a.CLine, zs_one (z_ret (z_callB zc_len (by rfl) t.b_len (by decide +kernel) (za_cons (z_val (zf_lc (own := [(("trip" : Str), 2)]) (pe_lc (own := [(("trip" : Str), 2)]) rfl sc_many_on.nd (zi_tup (zv 0)) (blkOk_by (own := [(("trip" : Str), 2)]) (N := N_many_on) (sc := defScope s_many_on) (by decide +kernel)) (fun _ _ _ _ _ => zgw_name (by decide) (pg_name (i := 2) sc_many_on.nd rfl (Or.inl rfl))) (fun _ _ _ _ _ => zts_one (zt_chain zo_le zo_lt (z_ix (zv 2) (z_int)) (zv 1) (z_ix (zv 2) (z_int)))) (fun _ _ _ _ _ => zv 2)))) (za_nil)))), fun _ _ h => rd_many_on h⟩
theorem bd_no_seat_holds (t : Tx w K mg a) : Binds K a.d_no_seat_holds [("certificate" : Str), ("seats" : Str), ("trips" : Str), ("plan" : Str), ("start" : Str), ("end" : Str)] [] := t.F_no_seat_holds.binds fun _ _ _ _ _ _ us hl => match us, hl with | [_, _, _, _, _, _], _ => rfl
theorem ok_no_seat_holds (t : Tx w K mg a) (tb : True) : FnOk P w K mg base CX0 5 a.f_no_seat_holds a.d_no_seat_holds [("certificate" : Str), ("seats" : Str), ("trips" : Str), ("plan" : Str), ("start" : Str), ("end" : Str)] (upSp K (TT a) (sp_no_seat_holds K a.CLine)) :=
  okP t.F_no_seat_holds sc_no_seat_holds (fun _ _ h => len_no_seat_holds h) (by decide) fun cdv A outer s H E hr => ⟨ts_no_seat_holds K a.CLine, zs_cons (z_if ((zw_or (zt_cmp zo_is (z_call (ok_seats_given t tb) (hr.mono (by decide)) (by rfl) t.g_seats_given t.k_seats_given (bd_seats_given t) .nil (fun _ _ => .nil) (za_cons (zv 1) (za_cons (zv 2) (za_cons (zvK 3) (za_nil))))) (z_non)) (zw_or (zt_not (zt_val (z_call (ok_are_stations t tb) (hr.mono (by decide)) (by rfl) t.g_are_stations t.k_are_stations (bd_are_stations t) .nil (fun _ _ => .nil) (za_cons (zv 4) (za_cons (zv 5) (za_nil)))))) (zw_or1 (zt_not (zt_val (z_call (ok_is_whole t tb) (hr.mono (by decide)) (by rfl) t.g_is_whole t.k_is_whole (bd_is_whole t) .nil (fun _ _ => .nil) (za_cons (zv 0) (za_cons (zv 4) (za_nil))))))))).pt) (zs_one (z_ret (z_bl))) (zs_nil)) (zs_one (z_ret (z_and (z_cmp zo_lt (zv 0) (zv 5)) (z_one (z_cmp zo_eqI (z_call (ok_many_on t tb) (hr.mono (by decide)) (by rfl) t.g_many_on t.k_many_on (bd_many_on t) .nil (fun _ _ => .nil) (za_cons (zv 2) (za_cons (zv 0) (za_nil)))) (zv 1)))))), fun _ _ h => rd_no_seat_holds h⟩
theorem bd_accepts (t : Tx w K mg a) : Binds K a.d_accepts [("claim" : Str), ("certificate" : Str)] [] := t.F_accepts.binds fun _ _ _ _ _ _ us hl => match us, hl with | [_, _], _ => rfl
theorem ok_accepts (t : Tx w K mg a) (tb : True) : FnOk P w K mg base CX0 6 a.f_accepts a.d_accepts [("claim" : Str), ("certificate" : Str)] (upSp K (TT a) (sp_accepts K a.CLine)) :=
  okP t.F_accepts sc_accepts (fun _ _ h => len_accepts h) (by decide) fun cdv A outer s H E hr => ⟨ts_accepts K a.CLine, zs_cons (z_if ((zw_or (zt_not (zt_val (z_callB zc_isi (by rfl) t.b_isinstance (by decide +kernel) (za_cons (zv 0) (za_cons (z_ty (by rfl) t.b_tuple (by decide +kernel)) (za_nil)))))) (zw_or (zt_cmp zo_lt (z_callB zc_len (by rfl) t.b_len (by decide +kernel) (za_cons (zv 0) (za_nil))) (z_int)) (zw_or1 (zt_not (zt_val (z_callB zc_isi (by rfl) t.b_isinstance (by decide +kernel) (za_cons (z_ix (zv 0) (z_int)) (za_cons (z_ty (by rfl) t.b_str (by decide +kernel)) (za_nil))))))))).pt) (zs_one (z_ret (z_bl))) (zs_nil)) (zs_cons (z_set (i := 2) sc_accepts.nd rfl (Or.inl rfl) (z_ix (zv 0) (z_int))) (zs_cons (z_set (i := 3) sc_accepts.nd rfl (Or.inl rfl) (z_ix (zv 0) (z_int))) (zs_cons (z_set (i := 4) sc_accepts.nd rfl (Or.inl rfl) (z_sliceA (zv 0) (zp_some (z_int)) (zp_none))) (zs_cons (z_setLc (own := [(("word" : Str), 7)]) (i := 5) (ps_setLc (own := [(("word" : Str), 7)]) rfl sc_accepts.nd (i := 5) rfl rfl rfl (zi_kd t.D_SIZES t.ks_SIZES (by rfl) t.g_SIZES) (blkOk_by (own := [(("word" : Str), 7)]) (N := N_accepts) (sc := defScope s_accepts) (by decide +kernel)) (fun _ _ _ _ _ => zgw_name (by decide) (pg_name (i := 7) sc_accepts.nd rfl (Or.inl rfl))) (fun _ _ _ _ _ => zts_one (zt_cmp zo_eqI (zv 7) (z_ix (zv 0) (z_int)))) (fun _ _ _ _ _ => zv 7))) (zs_cons (z_if ((zw_or (zt_not (zt_tru (zv 5))) (zw_or (zt_cmp zo_neI (z_callB zc_len (by rfl) t.b_len (by decide +kernel) (za_cons (zv 4) (za_nil))) (z_kd t.D_SIZES (kok_int t.v_SIZES_plan.choose_spec (kok_int t.v_SIZES_no_plan.choose_spec (kok_int t.v_SIZES_route.choose_spec (kok_int t.v_SIZES_fixed.choose_spec (kok_int t.v_SIZES_not_fixed.choose_spec (kok_int t.v_SIZES_number.choose_spec (kok_int t.v_SIZES_changes.choose_spec (kok_int t.v_SIZES_no_seat.choose_spec kok_nil)))))))) (by rfl) t.g_SIZES (z_ix (zv 5) (z_int)))) (zw_or1 (zt_not (zt_val (z_call (ok_are_of_a_line t tb) (hr.mono (by decide)) (by rfl) t.g_are_of_a_line t.k_are_of_a_line (bd_are_of_a_line t) .nil (fun _ _ => .nil) (za_cons (zv 2) (za_cons (zv 3) (za_nil))))))))).pt) (zs_one (z_ret (z_bl))) (zs_nil)) (zs_judge (i := 6) (k := 5) t.D_JUDGES (jok_cons t.j_JUDGES_changes ((ok_changes_holds t tb).mono (by decide)) t.k_changes_holds (bd_changes_holds t) (jok_cons t.j_JUDGES_no_seat ((ok_no_seat_holds t tb).mono (by decide)) t.k_no_seat_holds (bd_no_seat_holds t) jok_nil)) (by rfl) t.g_JUDGES (hr.mono (by decide)) sc_accepts.nd rfl (Or.inl rfl) (Or.inl rfl) (z_ix (zv 5) (z_int)) (za_cons (zv 1) (za_cons (zv 2) (za_cons (zv 3) (za_star (zv 4) (za_nil))))))))))), fun _ _ h => rd_accepts h⟩
theorem bd_law_right (t : Tx w K mg a) : Binds K a.d_law_right [("_law_pool_here" : Str)] [] := t.F_law_right.binds fun _ _ _ _ _ _ us hl => match us, hl with | [_], _ => rfl
theorem ok_law_right (t : Tx w K mg a) (tb : True) : FnOk P w K mg base CX0 7 a.f_law_right a.d_law_right [("_law_pool_here" : Str)] (upSpR K (TT a) (sp_law_right K a.CLine)) :=
  okR (nm := ("_law_pool_here" : Str)) (N := [("_law_words_here" : Str), ("_law_width" : Str), ("_law_rides" : Str), ("_law_count_here" : Str), ("_law_word" : Str), ("_law_begin" : Str), ("_law_spots" : Str), ("_law_first" : Str), ("_law_last" : Str), ("_law_base" : Str), ("_law_fewest_here" : Str), ("_law_told" : Str), ("_law_parts_here" : Str), ("_law_pairs_here" : Str), ("_law_size" : Str), ("_law_fits" : Str), ("_law_needs" : Str), ("_law_row" : Str), ("_law_place" : Str), ("_law_answer" : Str), ("_law_need" : Str)]) (ps := []) t.F_law_right sc_law_right (fun _ _ _ h => len_law_right h) (by decide) fun cdv A outer s H E hr => ⟨ts_law_right K a.CLine, zs_cons (z_set (i := 1) sc_law_right.nd rfl (Or.inl rfl) (z_callB (zc_sorted hr.units) (by rfl) t.b_sorted (by decide +kernel) (za_cons (z_callR (ok_law_words t tb) (hr.mono (by decide)) (by rfl) t.g__law_words t.k__law_words (bd_law_words t) (pa_cons (pv 0) (za_cons (z_op zo_add (z_int) (z_callR (ok_law_draw t tb) (hr.mono (by decide)) (by rfl) t.g__law_draw t.k__law_draw (bd_law_draw t) (pa_cons (pv 0) (za_cons (z_int) (za_nil))))) (za_nil)))) (za_nil)))) (zs_cons (z_par3 (i := 2) (j := 3) (l := 4) rfl (ps_par3 (i := 2) (j := 3) (l := 4) rfl sc_law_right.nd rfl rfl rfl (by decide) (by decide) (by decide) rfl rfl rfl (zr_v (z_op zo_add (z_int) (z_callR (ok_law_draw t tb) (hr.mono (by decide)) (by rfl) t.g__law_draw t.k__law_draw (bd_law_draw t) (pa_cons (pv 0) (za_cons (z_int) (za_nil))))) (zr_f (zf_lst (za_nil)) (zr_v (z_int) (zr_nil)))) (by rfl))) (zs_cons (z_for PassesOwn.never rfl (zi_list (zv 1)) (zg_name (i := 5) sc_law_right.nd rfl (Or.inl rfl)) (zs_cons (z_set (i := 6) sc_law_right.nd rfl (Or.inl rfl) (z_callR (ok_law_draw t tb) (hr.mono (by decide)) (by rfl) t.g__law_draw t.k__law_draw (bd_law_draw t) (pa_cons (pv 0) (za_cons (z_int) (za_nil))))) (zs_one (z_app rfl (ps_expr (pe_bm PySem.F.plainAttrs_list PySem.F.slot_list_append PySem.F.type_list_append mt_append (pv 3) (pa_cons (z_tup (za_cons (zv 5) (za_cons (zv 6) (za_cons (z_op zo_add (z_op zo_add (zv 6) (z_int)) (z_callR (ok_law_draw t tb) (hr.mono (by decide)) (by rfl) t.g__law_draw t.k__law_draw (bd_law_draw t) (pa_cons (pv 0) (za_cons (z_op zo_sub (z_int) (zv 6)) (za_nil))))) (za_nil))))) pa_nil))))))) (zs_cons (z_set (i := 3) sc_law_right.nd rfl (Or.inl rfl) (z_callTy zc_tuple (by rfl) t.b_tuple (by decide +kernel) (za_cons (zv 3) (za_nil)))) (zs_cons (z_par2 (i := 7) (j := 8) rfl (ps_par (i := 7) (j := 8) rfl sc_law_right.nd rfl rfl (by decide) rfl rfl (zr_v (z_callR (ok_law_drawn t tb) (hr.mono (by decide)) (by rfl) t.g__law_drawn t.k__law_drawn (bd_law_drawn t) (pa_cons (pv 0) (za_cons (zv 2) (za_cons (zv 3) (za_nil))))) (zr_v (z_callR (ok_law_draw t tb) (hr.mono (by decide)) (by rfl) t.g__law_draw t.k__law_draw (bd_law_draw t) (pa_cons (pv 0) (za_cons (z_int) (za_nil)))) (zr_nil))) (by rfl))) (zs_cons (z_set (i := 9) sc_law_right.nd rfl (Or.inl rfl) (z_op zo_add (z_op zo_add (zv 8) (z_int)) (z_callR (ok_law_draw t tb) (hr.mono (by decide)) (by rfl) t.g__law_draw t.k__law_draw (bd_law_draw t) (pa_cons (pv 0) (za_cons (z_int) (za_nil)))))) (zs_cons (z_if (zt_cmp zo_is (zv 7) (z_non)) (zs_one (z_ret (z_cmp zo_isT (z_call (ok_accepts t tb) (hr.mono (by decide)) (by rfl) t.g_accepts t.k_accepts (bd_accepts t) .nil (fun _ _ => .nil) (za_cons (z_tup (za_cons (z_str) (za_cons (zv 2) (za_cons (zv 3) (za_cons (z_tup (za_nil)) (za_cons (zv 8) (za_cons (zv 9) (za_nil)))))))) (za_cons (zv 8) (za_nil)))) (z_bl)))) (zs_nil)) (zs_cons (z_asg (z_tup (za_cons (z_tup (za_cons (zv 2) (za_cons (zv 3) (za_cons (zv 7) (za_cons (zv 8) (za_cons (zv 9) (za_nil))))))) (za_cons (z_call (ok_law_fewest t tb) (hr.mono (by decide)) (by rfl) t.g__law_fewest t.k__law_fewest (bd_law_fewest t) .nil (fun _ _ => .nil) (za_cons (zv 2) (za_cons (zv 3) (za_cons (zv 7) (za_cons (zv 8) (za_cons (zv 9) (za_nil))))))) (za_nil)))) (zg_tup (pg_tup rfl (zgs_cons1 (zg_name (i := 10) sc_law_right.nd rfl (Or.inr rfl)) (zgs_cons1 (zg_name (i := 11) sc_law_right.nd rfl (Or.inl rfl)) (zgs_nil)))))) (zs_cons (z_setLc (own := [(("_law_place" : Str), 19)]) (i := 12) (ps_setLc (own := [(("_law_place" : Str), 19)]) rfl sc_law_right.nd (i := 12) rfl rfl rfl (zi_range1 (by rfl) t.b_range (z_int)) (blkOk_by (own := [(("_law_place" : Str), 19)]) (N := N_law_right) (sc := defScope s_law_right) (by decide +kernel)) (fun _ _ _ _ _ => zgw_name (by decide) (pg_name (i := 19) sc_law_right.nd rfl (Or.inl rfl))) (fun _ _ _ _ _ => zts_nil) (fun _ _ _ _ _ => z_call (ok_accepts t tb) (hr.mono (by decide)) (by rfl) t.g_accepts t.k_accepts (bd_accepts t) .nil (fun _ _ => .nil) (za_cons (z_op zo_add (z_tup (za_cons (z_str) (za_nil))) (zv 10)) (za_cons (zv 19) (za_nil)))))) (zs_cons (z_if ((zw_or (zt_cmp zo_neI (z_callB (zc_any rfl) (by rfl) t.b_any (by decide +kernel) (za_cons (zv 12) (za_nil))) (z_cmp zo_is (zv 11) (z_non))) (zw_or1 (zt_not (zt_val (z_callB (zc_all rfl) (by rfl) t.b_all (by decide +kernel) (za_cons (z_val (zf_lc (own := [(("_law_answer" : Str), 20)]) (pe_lc (own := [(("_law_answer" : Str), 20)]) rfl sc_law_right.nd (zi_list (zv 12)) (blkOk_by (own := [(("_law_answer" : Str), 20)]) (N := N_law_right) (sc := defScope s_law_right) (by decide +kernel)) (fun _ _ _ _ _ => zgw_name (by decide) (pg_name (i := 20) sc_law_right.nd rfl (Or.inl rfl))) (fun _ _ _ _ _ => zts_nil) (fun _ _ _ _ _ => z_callB zc_isi (by rfl) t.b_isinstance (by decide +kernel) (za_cons (zv 20) (za_cons (z_ty (by rfl) t.b_bool (by decide +kernel)) (za_nil))))))) (za_nil))))))).pt) (zs_one (z_ret (z_bl))) (zs_nil)) (zs_cons (z_par2 (i := 13) (j := 14) rfl (ps_par (i := 13) (j := 14) rfl sc_law_right.nd rfl rfl (by decide) rfl rfl (zr_v (z_call (ok_law_parts t tb) (hr.mono (by decide)) (by rfl) t.g__law_parts t.k__law_parts (bd_law_parts t) .nil (fun _ _ => .nil) (za_cons (zv 2) (za_cons (zv 8) (za_cons (zv 9) (za_nil))))) (zr_v (z_call (ok_law_pairs t tb) (hr.mono (by decide)) (by rfl) t.g__law_pairs t.k__law_pairs (bd_law_pairs t) .nil (fun _ _ => .nil) (za_cons (zv 8) (za_cons (zv 9) (za_nil)))) (zr_nil))) (by rfl))) (zs_cons (z_for PassesOwn.never rfl (zi_range1 (by rfl) t.b_range (z_int)) (zg_name (i := 15) sc_law_right.nd rfl (Or.inr rfl)) (zs_cons (z_setLc (own := [(("_law_row" : Str), 18)]) (i := 16) (ps_setLc (own := [(("_law_row" : Str), 18)]) rfl sc_law_right.nd (i := 16) rfl rfl rfl (zi_list (zv 13)) (blkOk_by (own := [(("_law_row" : Str), 18)]) (N := N_law_right) (sc := defScope s_law_right) (by decide +kernel)) (fun _ _ _ _ _ => zgw_name (by decide) (pg_name (i := 18) sc_law_right.nd rfl (Or.inl rfl))) (fun _ _ _ _ _ => zts_one (zt_cmp zo_eqI (z_callB zc_len (by rfl) t.b_len (by decide +kernel) (za_cons (zv 18) (za_nil))) (z_op zo_add (zv 15) (z_int)))) (fun _ _ _ _ _ => zv 18))) (zs_cons (z_setLc (own := [(("_law_row" : Str), 18)]) (i := 17) (ps_setLc (own := [(("_law_row" : Str), 18)]) rfl sc_law_right.nd (i := 17) rfl rfl rfl (zi_list (zv 14)) (blkOk_by (own := [(("_law_row" : Str), 18)]) (N := N_law_right) (sc := defScope s_law_right) (by decide +kernel)) (fun _ _ _ _ _ => zgw_name (by decide) (pg_name (i := 18) sc_law_right.nd rfl (Or.inl rfl))) (fun _ _ _ _ _ => zts_one (zt_cmp zo_eqI (z_callB zc_len (by rfl) t.b_len (by decide +kernel) (za_cons (zv 18) (za_nil))) (zv 15))) (fun _ _ _ _ _ => zv 18))) (zs_one (z_for PassesOwn.never rfl (zi_list (zv 16)) (zg_name (i := 18) sc_law_right.nd rfl (Or.inr rfl)) (zs_cons (z_setLc (own := [(("_law_need" : Str), 21)]) (i := 12) (ps_setLc (own := [(("_law_need" : Str), 21)]) rfl sc_law_right.nd (i := 12) rfl rfl rfl (zi_list (zv 17)) (blkOk_by (own := [(("_law_need" : Str), 21)]) (N := N_law_right) (sc := defScope s_law_right) (by decide +kernel)) (fun _ _ _ _ _ => zgw_name (by decide) (pg_name (i := 21) sc_law_right.nd rfl (Or.inl rfl))) (fun _ _ _ _ _ => zts_nil) (fun _ _ _ _ _ => z_call (ok_accepts t tb) (hr.mono (by decide)) (by rfl) t.g_accepts t.k_accepts (bd_accepts t) .nil (fun _ _ => .nil) (za_cons (z_op zo_add (z_op zo_add (z_tup (za_cons (z_str) (za_nil))) (zv 10)) (z_tup (za_cons (zv 15) (za_nil)))) (za_cons (z_tup (za_cons (zv 18) (za_cons (zv 21) (za_nil)))) (za_nil)))))) (zs_cons (z_if ((zw_and (zt_val (z_callB (zc_any rfl) (by rfl) t.b_any (by decide +kernel) (za_cons (zv 12) (za_nil)))) (zw_and1 (zt_cmp (zo_ne hr.units) (zv 11) (zv 15)))).pt) (zs_one (z_ret (z_bl))) (zs_nil)) (zs_one (z_set (i := 4) sc_law_right.nd rfl (Or.inl rfl) (z_op zo_add (zv 4) (z_cntB rfl (pe_bm PySem.F.plainAttrs_list PySem.F.slot_list_count PySem.F.type_list_count mt_lcountB (zv 12) (pa_cons (z_bl) pa_nil))))))))))))) (zs_one (z_ret (z_or (z_cmp (zo_eq hr.units) (zv 11) (z_int)) (z_one (z_cmp zo_eqI (z_cmp zo_gt (zv 4) (z_int)) (z_cmp (zo_inLd (Room.u65 hr)) (zv 11) (z_lst (za_cons (z_int) (za_cons (z_int) (za_nil))))))))))))))))))))), fun _ _ _ h => rd_law_right h⟩
theorem ok_law (t : Tx w K mg a) (tb : True) : FnOk P w K mg base CX0 8 a.f_law a.d_law [("_law_script" : Str)] (upSp K (TT a) (sp_law K a.CLine)) :=
  okP t.F_law sc_law (fun _ _ h => len_law h) (by decide) fun cdv A outer s H E hr => ⟨ts_law K a.CLine, zs_one (z_ret (z_callB (zc_all rfl) (by rfl) t.b_all (by decide +kernel) (za_cons (z_val (zf_lc (own := [(("_law_k" : Str), 1)]) (pe_lc (own := [(("_law_k" : Str), 1)]) rfl sc_law.nd (zi_range1 (by rfl) t.b_range (z_int)) (blkOk_by (own := [(("_law_k" : Str), 1)]) (N := N_law) (sc := defScope s_law) (by decide +kernel)) (fun _ _ _ _ _ => zgw_name (by decide) (pg_name (i := 1) sc_law.nd rfl (Or.inl rfl))) (fun _ _ _ _ _ => zts_nil) (fun _ _ _ _ _ => z_callRF (ok_law_right t tb) (hr.mono (by decide)) (by rfl) t.g__law_right t.k__law_right (bd_law_right t) (pa_cons (z_callF (ok_law_pool t tb) (hr.mono (by decide)) (by rfl) t.g__law_pool t.k__law_pool (bd_law_pool t) (za_cons (z_call (ok_law_cell t tb) (hr.mono (by decide)) (by rfl) t.g__law_cell t.k__law_cell (bd_law_cell t) .nil (fun _ _ => .nil) (za_cons (zv 0) (za_cons (zv 1) (za_nil)))) (za_nil))) (za_nil)))))) (za_nil)))), fun _ _ h => rd_law h⟩
end
end ZK
set_option Elab.async false
set_option linter.all false
set_option maxRecDepth 100000
set_option maxHeartbeats 4000000
namespace ZK
open PySem PySem.Spec L2 Z
open PyProof.Rows hiding St
theorem law_mk {l : PySem.W.OpenLaw} {w : World} {K : PySem.W.Frag} {h : Heap} {mg : Str → Option Value} {fa a_SIZES a_JUDGES f_law_cell f_law_pool f_law_draw f_law_by_startS f_law_meet f_law_choices f_law_flat f_law_drawn f_law_held f_law_fewest f_law_pairs f_law_parts f_law_words f_is_whole f_are_stations f_is_tuple_of f_is_booked f_are_of_a_line f_overlap f_is_unoccupied f_is_blocked f_is_one_of f_is_way f_place_of f_taken_before f_seats_given f_changes_holds f_many_on f_no_seat_holds f_accepts f_law_right f_law : Addr} 
    {e_SIZES : Array DictEntry} {n_SIZES : Nat} {t_SIZES_plan : Tok} {t_SIZES_no_plan : Tok} {t_SIZES_route : Tok} {t_SIZES_fixed : Tok} {t_SIZES_not_fixed : Tok} {t_SIZES_number : Tok} {t_SIZES_changes : Tok} {t_SIZES_no_seat : Tok} {e_JUDGES : Array DictEntry} {n_JUDGES : Nat} {oc_law_cell kV_law_cell dc_law_cell pm_law_cell cd_law_cell ct_law_cell : Value} {od_law_cell an_law_cell : Option Addr} {sl_law_cell : Array (Option Value)} {oc_law_pool kV_law_pool dc_law_pool pm_law_pool cd_law_pool ct_law_pool : Value} {od_law_pool an_law_pool : Option Addr} {sl_law_pool : Array (Option Value)} {oc_law_draw kV_law_draw dc_law_draw pm_law_draw cd_law_draw ct_law_draw : Value} {od_law_draw an_law_draw : Option Addr} {sl_law_draw : Array (Option Value)} {oc_law_by_startS kV_law_by_startS dc_law_by_startS pm_law_by_startS cd_law_by_startS ct_law_by_startS : Value} {od_law_by_startS an_law_by_startS : Option Addr} {sl_law_by_startS : Array (Option Value)} {oc_law_meet kV_law_meet dc_law_meet pm_law_meet cd_law_meet ct_law_meet : Value} {od_law_meet an_law_meet : Option Addr} {sl_law_meet : Array (Option Value)} {oc_law_choices kV_law_choices dc_law_choices pm_law_choices cd_law_choices ct_law_choices : Value} {od_law_choices an_law_choices : Option Addr} {sl_law_choices : Array (Option Value)} {oc_law_flat kV_law_flat dc_law_flat pm_law_flat cd_law_flat ct_law_flat : Value} {od_law_flat an_law_flat : Option Addr} {sl_law_flat : Array (Option Value)} {oc_law_drawn kV_law_drawn dc_law_drawn pm_law_drawn cd_law_drawn ct_law_drawn : Value} {od_law_drawn an_law_drawn : Option Addr} {sl_law_drawn : Array (Option Value)} {oc_law_held kV_law_held dc_law_held pm_law_held cd_law_held ct_law_held : Value} {od_law_held an_law_held : Option Addr} {sl_law_held : Array (Option Value)} {oc_law_fewest kV_law_fewest dc_law_fewest pm_law_fewest cd_law_fewest ct_law_fewest : Value} {od_law_fewest an_law_fewest : Option Addr} {sl_law_fewest : Array (Option Value)} {oc_law_pairs kV_law_pairs dc_law_pairs pm_law_pairs cd_law_pairs ct_law_pairs : Value} {od_law_pairs an_law_pairs : Option Addr} {sl_law_pairs : Array (Option Value)} {oc_law_parts kV_law_parts dc_law_parts pm_law_parts cd_law_parts ct_law_parts : Value} {od_law_parts an_law_parts : Option Addr} {sl_law_parts : Array (Option Value)} {oc_law_words kV_law_words dc_law_words pm_law_words cd_law_words ct_law_words : Value} {od_law_words an_law_words : Option Addr} {sl_law_words : Array (Option Value)} {oc_is_whole kV_is_whole dc_is_whole pm_is_whole cd_is_whole ct_is_whole : Value} {od_is_whole an_is_whole : Option Addr} {sl_is_whole : Array (Option Value)} {oc_are_stations kV_are_stations dc_are_stations pm_are_stations cd_are_stations ct_are_stations : Value} {od_are_stations an_are_stations : Option Addr} {sl_are_stations : Array (Option Value)} {oc_is_tuple_of kV_is_tuple_of dc_is_tuple_of pm_is_tuple_of cd_is_tuple_of ct_is_tuple_of : Value} {od_is_tuple_of an_is_tuple_of : Option Addr} {sl_is_tuple_of : Array (Option Value)} {oc_is_booked kV_is_booked dc_is_booked pm_is_booked cd_is_booked ct_is_booked : Value} {od_is_booked an_is_booked : Option Addr} {sl_is_booked : Array (Option Value)} {oc_are_of_a_line kV_are_of_a_line dc_are_of_a_line pm_are_of_a_line cd_are_of_a_line ct_are_of_a_line : Value} {od_are_of_a_line an_are_of_a_line : Option Addr} {sl_are_of_a_line : Array (Option Value)} {oc_overlap kV_overlap dc_overlap pm_overlap cd_overlap ct_overlap : Value} {od_overlap an_overlap : Option Addr} {sl_overlap : Array (Option Value)} {oc_is_unoccupied kV_is_unoccupied dc_is_unoccupied pm_is_unoccupied cd_is_unoccupied ct_is_unoccupied : Value} {od_is_unoccupied an_is_unoccupied : Option Addr} {sl_is_unoccupied : Array (Option Value)} {oc_is_blocked kV_is_blocked dc_is_blocked pm_is_blocked cd_is_blocked ct_is_blocked : Value} {od_is_blocked an_is_blocked : Option Addr} {sl_is_blocked : Array (Option Value)} {oc_is_one_of kV_is_one_of dc_is_one_of pm_is_one_of cd_is_one_of ct_is_one_of : Value} {od_is_one_of an_is_one_of : Option Addr} {sl_is_one_of : Array (Option Value)} {oc_is_way kV_is_way dc_is_way pm_is_way cd_is_way ct_is_way : Value} {od_is_way an_is_way : Option Addr} {sl_is_way : Array (Option Value)} {oc_place_of kV_place_of dc_place_of pm_place_of cd_place_of ct_place_of : Value} {od_place_of an_place_of : Option Addr} {sl_place_of : Array (Option Value)} {oc_taken_before kV_taken_before dc_taken_before pm_taken_before cd_taken_before ct_taken_before : Value} {od_taken_before an_taken_before : Option Addr} {sl_taken_before : Array (Option Value)} {oc_seats_given kV_seats_given dc_seats_given pm_seats_given cd_seats_given ct_seats_given : Value} {od_seats_given an_seats_given : Option Addr} {sl_seats_given : Array (Option Value)} {oc_changes_holds kV_changes_holds dc_changes_holds pm_changes_holds cd_changes_holds ct_changes_holds : Value} {od_changes_holds an_changes_holds : Option Addr} {sl_changes_holds : Array (Option Value)} {oc_many_on kV_many_on dc_many_on pm_many_on cd_many_on ct_many_on : Value} {od_many_on an_many_on : Option Addr} {sl_many_on : Array (Option Value)} {oc_no_seat_holds kV_no_seat_holds dc_no_seat_holds pm_no_seat_holds cd_no_seat_holds ct_no_seat_holds : Value} {od_no_seat_holds an_no_seat_holds : Option Addr} {sl_no_seat_holds : Array (Option Value)} {oc_accepts kV_accepts dc_accepts pm_accepts cd_accepts ct_accepts : Value} {od_accepts an_accepts : Option Addr} {sl_accepts : Array (Option Value)} {oc_law_right kV_law_right dc_law_right pm_law_right cd_law_right ct_law_right : Value} {od_law_right an_law_right : Option Addr} {sl_law_right : Array (Option Value)} {oc_law kV_law dc_law pm_law cd_law ct_law : Value} {od_law an_law : Option Addr} {sl_law : Array (Option Value)} {tv_LETTERS : Tok} {tv_MAX_SEATS : Tok} {tv_MAX_TRIPS : Tok}
    (X : K.In h) (G : h.Ns mainGlobals mg) (hfa : mg "law" = some (.ref fa))
    (g_SIZES : PySem.W.nsIn K mainGlobals "SIZES" = some (some (.ref a_SIZES)))
    (kd_SIZES : K.lookup a_SIZES = some ⟨.type "dict", none, .dict e_SIZES n_SIZES, #[]⟩)
    (kl_SIZES : PySem.W.KeysLit w.params e_SIZES.toList)
    (ks_SIZES : KeysAre e_SIZES.toList [("plan" : Str), ("no plan" : Str), ("route" : Str), ("fixed" : Str), ("not fixed" : Str), ("number" : Str), ("changes" : Str), ("no seat" : Str)])
    (lo_SIZES : (a_SIZES == sysModules) = false)
    (v_SIZES_plan : PySem.W.nsIn K a_SIZES ("plan" : Str) = some (some (.int 1 t_SIZES_plan)))
    (v_SIZES_no_plan : PySem.W.nsIn K a_SIZES ("no plan" : Str) = some (some (.int 0 t_SIZES_no_plan)))
    (v_SIZES_route : PySem.W.nsIn K a_SIZES ("route" : Str) = some (some (.int 2 t_SIZES_route)))
    (v_SIZES_fixed : PySem.W.nsIn K a_SIZES ("fixed" : Str) = some (some (.int 1 t_SIZES_fixed)))
    (v_SIZES_not_fixed : PySem.W.nsIn K a_SIZES ("not fixed" : Str) = some (some (.int 1 t_SIZES_not_fixed)))
    (v_SIZES_number : PySem.W.nsIn K a_SIZES ("number" : Str) = some (some (.int 2 t_SIZES_number)))
    (v_SIZES_changes : PySem.W.nsIn K a_SIZES ("changes" : Str) = some (some (.int 4 t_SIZES_changes)))
    (v_SIZES_no_seat : PySem.W.nsIn K a_SIZES ("no seat" : Str) = some (some (.int 3 t_SIZES_no_seat)))
    (g_JUDGES : PySem.W.nsIn K mainGlobals "JUDGES" = some (some (.ref a_JUDGES)))
    (kd_JUDGES : K.lookup a_JUDGES = some ⟨.type "dict", none, .dict e_JUDGES n_JUDGES, #[]⟩)
    (kl_JUDGES : PySem.W.KeysLit w.params e_JUDGES.toList)
    (ks_JUDGES : KeysAre e_JUDGES.toList [("plan" : Str), ("no plan" : Str), ("route" : Str), ("fixed" : Str), ("not fixed" : Str), ("number" : Str), ("changes" : Str), ("no seat" : Str)])
    (lo_JUDGES : (a_JUDGES == sysModules) = false)
    (j_JUDGES_changes : PySem.W.nsIn K a_JUDGES ("changes" : Str) = some (some (.ref f_changes_holds)))
    (j_JUDGES_no_seat : PySem.W.nsIn K a_JUDGES ("no seat" : Str) = some (some (.ref f_no_seat_holds)))
    (a_law_cell : PySem.W.nsIn K mainGlobals "_law_cell" = some (some (.ref f_law_cell)))
    (l_law_cell : K.lookup f_law_cell = some ⟨oc_law_cell, od_law_cell, .func (PySem.W.fnOf "_law_cell" "_law_cell" (defArgs s_law_cell) (defBody s_law_cell) (defScope s_law_cell) .none kV_law_cell dc_law_cell pm_law_cell an_law_cell cd_law_cell ct_law_cell), sl_law_cell⟩)
    (e_law_cell : PySem.W.codeIn K cd_law_cell "_law_cell" = true)
    (k_law_cell : PySem.W.keepIn K (.ref f_law_cell) = true)
    (a_law_pool : PySem.W.nsIn K mainGlobals "_law_pool" = some (some (.ref f_law_pool)))
    (l_law_pool : K.lookup f_law_pool = some ⟨oc_law_pool, od_law_pool, .func (PySem.W.fnOf "_law_pool" "_law_pool" (defArgs s_law_pool) (defBody s_law_pool) (defScope s_law_pool) .none kV_law_pool dc_law_pool pm_law_pool an_law_pool cd_law_pool ct_law_pool), sl_law_pool⟩)
    (e_law_pool : PySem.W.codeIn K cd_law_pool "_law_pool" = true)
    (k_law_pool : PySem.W.keepIn K (.ref f_law_pool) = true)
    (a_law_draw : PySem.W.nsIn K mainGlobals "_law_draw" = some (some (.ref f_law_draw)))
    (l_law_draw : K.lookup f_law_draw = some ⟨oc_law_draw, od_law_draw, .func (PySem.W.fnOf "_law_draw" "_law_draw" (defArgs s_law_draw) (defBody s_law_draw) (defScope s_law_draw) .none kV_law_draw dc_law_draw pm_law_draw an_law_draw cd_law_draw ct_law_draw), sl_law_draw⟩)
    (e_law_draw : PySem.W.codeIn K cd_law_draw "_law_draw" = true)
    (k_law_draw : PySem.W.keepIn K (.ref f_law_draw) = true)
    (a_law_by_startS : PySem.W.nsIn K mainGlobals "_law_by_start" = some (some (.ref f_law_by_startS)))
    (l_law_by_startS : K.lookup f_law_by_startS = some ⟨oc_law_by_startS, od_law_by_startS, .func (PySem.W.fnOf "_law_by_start" "_law_by_start" (defArgs s_law_by_startS) (defBody s_law_by_startS) (defScope s_law_by_startS) .none kV_law_by_startS dc_law_by_startS pm_law_by_startS an_law_by_startS cd_law_by_startS ct_law_by_startS), sl_law_by_startS⟩)
    (e_law_by_startS : PySem.W.codeIn K cd_law_by_startS "_law_by_start" = true)
    (k_law_by_startS : PySem.W.keepIn K (.ref f_law_by_startS) = true)
    (a_law_meet : PySem.W.nsIn K mainGlobals "_law_meet" = some (some (.ref f_law_meet)))
    (l_law_meet : K.lookup f_law_meet = some ⟨oc_law_meet, od_law_meet, .func (PySem.W.fnOf "_law_meet" "_law_meet" (defArgs s_law_meet) (defBody s_law_meet) (defScope s_law_meet) .none kV_law_meet dc_law_meet pm_law_meet an_law_meet cd_law_meet ct_law_meet), sl_law_meet⟩)
    (e_law_meet : PySem.W.codeIn K cd_law_meet "_law_meet" = true)
    (k_law_meet : PySem.W.keepIn K (.ref f_law_meet) = true)
    (a_law_choices : PySem.W.nsIn K mainGlobals "_law_choices" = some (some (.ref f_law_choices)))
    (l_law_choices : K.lookup f_law_choices = some ⟨oc_law_choices, od_law_choices, .func (PySem.W.fnOf "_law_choices" "_law_choices" (defArgs s_law_choices) (defBody s_law_choices) (defScope s_law_choices) .none kV_law_choices dc_law_choices pm_law_choices an_law_choices cd_law_choices ct_law_choices), sl_law_choices⟩)
    (e_law_choices : PySem.W.codeIn K cd_law_choices "_law_choices" = true)
    (k_law_choices : PySem.W.keepIn K (.ref f_law_choices) = true)
    (a_law_flat : PySem.W.nsIn K mainGlobals "_law_flat" = some (some (.ref f_law_flat)))
    (l_law_flat : K.lookup f_law_flat = some ⟨oc_law_flat, od_law_flat, .func (PySem.W.fnOf "_law_flat" "_law_flat" (defArgs s_law_flat) (defBody s_law_flat) (defScope s_law_flat) .none kV_law_flat dc_law_flat pm_law_flat an_law_flat cd_law_flat ct_law_flat), sl_law_flat⟩)
    (e_law_flat : PySem.W.codeIn K cd_law_flat "_law_flat" = true)
    (k_law_flat : PySem.W.keepIn K (.ref f_law_flat) = true)
    (a_law_drawn : PySem.W.nsIn K mainGlobals "_law_drawn" = some (some (.ref f_law_drawn)))
    (l_law_drawn : K.lookup f_law_drawn = some ⟨oc_law_drawn, od_law_drawn, .func (PySem.W.fnOf "_law_drawn" "_law_drawn" (defArgs s_law_drawn) (defBody s_law_drawn) (defScope s_law_drawn) .none kV_law_drawn dc_law_drawn pm_law_drawn an_law_drawn cd_law_drawn ct_law_drawn), sl_law_drawn⟩)
    (e_law_drawn : PySem.W.codeIn K cd_law_drawn "_law_drawn" = true)
    (k_law_drawn : PySem.W.keepIn K (.ref f_law_drawn) = true)
    (a_law_held : PySem.W.nsIn K mainGlobals "_law_held" = some (some (.ref f_law_held)))
    (l_law_held : K.lookup f_law_held = some ⟨oc_law_held, od_law_held, .func (PySem.W.fnOf "_law_held" "_law_held" (defArgs s_law_held) (defBody s_law_held) (defScope s_law_held) .none kV_law_held dc_law_held pm_law_held an_law_held cd_law_held ct_law_held), sl_law_held⟩)
    (e_law_held : PySem.W.codeIn K cd_law_held "_law_held" = true)
    (k_law_held : PySem.W.keepIn K (.ref f_law_held) = true)
    (a_law_fewest : PySem.W.nsIn K mainGlobals "_law_fewest" = some (some (.ref f_law_fewest)))
    (l_law_fewest : K.lookup f_law_fewest = some ⟨oc_law_fewest, od_law_fewest, .func (PySem.W.fnOf "_law_fewest" "_law_fewest" (defArgs s_law_fewest) (defBody s_law_fewest) (defScope s_law_fewest) .none kV_law_fewest dc_law_fewest pm_law_fewest an_law_fewest cd_law_fewest ct_law_fewest), sl_law_fewest⟩)
    (e_law_fewest : PySem.W.codeIn K cd_law_fewest "_law_fewest" = true)
    (k_law_fewest : PySem.W.keepIn K (.ref f_law_fewest) = true)
    (a_law_pairs : PySem.W.nsIn K mainGlobals "_law_pairs" = some (some (.ref f_law_pairs)))
    (l_law_pairs : K.lookup f_law_pairs = some ⟨oc_law_pairs, od_law_pairs, .func (PySem.W.fnOf "_law_pairs" "_law_pairs" (defArgs s_law_pairs) (defBody s_law_pairs) (defScope s_law_pairs) .none kV_law_pairs dc_law_pairs pm_law_pairs an_law_pairs cd_law_pairs ct_law_pairs), sl_law_pairs⟩)
    (e_law_pairs : PySem.W.codeIn K cd_law_pairs "_law_pairs" = true)
    (k_law_pairs : PySem.W.keepIn K (.ref f_law_pairs) = true)
    (a_law_parts : PySem.W.nsIn K mainGlobals "_law_parts" = some (some (.ref f_law_parts)))
    (l_law_parts : K.lookup f_law_parts = some ⟨oc_law_parts, od_law_parts, .func (PySem.W.fnOf "_law_parts" "_law_parts" (defArgs s_law_parts) (defBody s_law_parts) (defScope s_law_parts) .none kV_law_parts dc_law_parts pm_law_parts an_law_parts cd_law_parts ct_law_parts), sl_law_parts⟩)
    (e_law_parts : PySem.W.codeIn K cd_law_parts "_law_parts" = true)
    (k_law_parts : PySem.W.keepIn K (.ref f_law_parts) = true)
    (a_law_words : PySem.W.nsIn K mainGlobals "_law_words" = some (some (.ref f_law_words)))
    (l_law_words : K.lookup f_law_words = some ⟨oc_law_words, od_law_words, .func (PySem.W.fnOf "_law_words" "_law_words" (defArgs s_law_words) (defBody s_law_words) (defScope s_law_words) .none kV_law_words dc_law_words pm_law_words an_law_words cd_law_words ct_law_words), sl_law_words⟩)
    (e_law_words : PySem.W.codeIn K cd_law_words "_law_words" = true)
    (k_law_words : PySem.W.keepIn K (.ref f_law_words) = true)
    (a_is_whole : PySem.W.nsIn K mainGlobals "is_whole" = some (some (.ref f_is_whole)))
    (l_is_whole : K.lookup f_is_whole = some ⟨oc_is_whole, od_is_whole, .func (PySem.W.fnOf "is_whole" "is_whole" (defArgs s_is_whole) (defBody s_is_whole) (defScope s_is_whole) .none kV_is_whole dc_is_whole pm_is_whole an_is_whole cd_is_whole ct_is_whole), sl_is_whole⟩)
    (e_is_whole : PySem.W.codeIn K cd_is_whole "is_whole" = true)
    (k_is_whole : PySem.W.keepIn K (.ref f_is_whole) = true)
    (a_are_stations : PySem.W.nsIn K mainGlobals "are_stations" = some (some (.ref f_are_stations)))
    (l_are_stations : K.lookup f_are_stations = some ⟨oc_are_stations, od_are_stations, .func (PySem.W.fnOf "are_stations" "are_stations" (defArgs s_are_stations) (defBody s_are_stations) (defScope s_are_stations) .none kV_are_stations dc_are_stations pm_are_stations an_are_stations cd_are_stations ct_are_stations), sl_are_stations⟩)
    (e_are_stations : PySem.W.codeIn K cd_are_stations "are_stations" = true)
    (k_are_stations : PySem.W.keepIn K (.ref f_are_stations) = true)
    (a_is_tuple_of : PySem.W.nsIn K mainGlobals "is_tuple_of" = some (some (.ref f_is_tuple_of)))
    (l_is_tuple_of : K.lookup f_is_tuple_of = some ⟨oc_is_tuple_of, od_is_tuple_of, .func (PySem.W.fnOf "is_tuple_of" "is_tuple_of" (defArgs s_is_tuple_of) (defBody s_is_tuple_of) (defScope s_is_tuple_of) .none kV_is_tuple_of dc_is_tuple_of pm_is_tuple_of an_is_tuple_of cd_is_tuple_of ct_is_tuple_of), sl_is_tuple_of⟩)
    (e_is_tuple_of : PySem.W.codeIn K cd_is_tuple_of "is_tuple_of" = true)
    (k_is_tuple_of : PySem.W.keepIn K (.ref f_is_tuple_of) = true)
    (a_is_booked : PySem.W.nsIn K mainGlobals "is_booked" = some (some (.ref f_is_booked)))
    (l_is_booked : K.lookup f_is_booked = some ⟨oc_is_booked, od_is_booked, .func (PySem.W.fnOf "is_booked" "is_booked" (defArgs s_is_booked) (defBody s_is_booked) (defScope s_is_booked) .none kV_is_booked dc_is_booked pm_is_booked an_is_booked cd_is_booked ct_is_booked), sl_is_booked⟩)
    (e_is_booked : PySem.W.codeIn K cd_is_booked "is_booked" = true)
    (k_is_booked : PySem.W.keepIn K (.ref f_is_booked) = true)
    (a_are_of_a_line : PySem.W.nsIn K mainGlobals "are_of_a_line" = some (some (.ref f_are_of_a_line)))
    (l_are_of_a_line : K.lookup f_are_of_a_line = some ⟨oc_are_of_a_line, od_are_of_a_line, .func (PySem.W.fnOf "are_of_a_line" "are_of_a_line" (defArgs s_are_of_a_line) (defBody s_are_of_a_line) (defScope s_are_of_a_line) .none kV_are_of_a_line dc_are_of_a_line pm_are_of_a_line an_are_of_a_line cd_are_of_a_line ct_are_of_a_line), sl_are_of_a_line⟩)
    (e_are_of_a_line : PySem.W.codeIn K cd_are_of_a_line "are_of_a_line" = true)
    (k_are_of_a_line : PySem.W.keepIn K (.ref f_are_of_a_line) = true)
    (a_overlap : PySem.W.nsIn K mainGlobals "overlap" = some (some (.ref f_overlap)))
    (l_overlap : K.lookup f_overlap = some ⟨oc_overlap, od_overlap, .func (PySem.W.fnOf "overlap" "overlap" (defArgs s_overlap) (defBody s_overlap) (defScope s_overlap) .none kV_overlap dc_overlap pm_overlap an_overlap cd_overlap ct_overlap), sl_overlap⟩)
    (e_overlap : PySem.W.codeIn K cd_overlap "overlap" = true)
    (k_overlap : PySem.W.keepIn K (.ref f_overlap) = true)
    (a_is_unoccupied : PySem.W.nsIn K mainGlobals "is_unoccupied" = some (some (.ref f_is_unoccupied)))
    (l_is_unoccupied : K.lookup f_is_unoccupied = some ⟨oc_is_unoccupied, od_is_unoccupied, .func (PySem.W.fnOf "is_unoccupied" "is_unoccupied" (defArgs s_is_unoccupied) (defBody s_is_unoccupied) (defScope s_is_unoccupied) .none kV_is_unoccupied dc_is_unoccupied pm_is_unoccupied an_is_unoccupied cd_is_unoccupied ct_is_unoccupied), sl_is_unoccupied⟩)
    (e_is_unoccupied : PySem.W.codeIn K cd_is_unoccupied "is_unoccupied" = true)
    (k_is_unoccupied : PySem.W.keepIn K (.ref f_is_unoccupied) = true)
    (a_is_blocked : PySem.W.nsIn K mainGlobals "is_blocked" = some (some (.ref f_is_blocked)))
    (l_is_blocked : K.lookup f_is_blocked = some ⟨oc_is_blocked, od_is_blocked, .func (PySem.W.fnOf "is_blocked" "is_blocked" (defArgs s_is_blocked) (defBody s_is_blocked) (defScope s_is_blocked) .none kV_is_blocked dc_is_blocked pm_is_blocked an_is_blocked cd_is_blocked ct_is_blocked), sl_is_blocked⟩)
    (e_is_blocked : PySem.W.codeIn K cd_is_blocked "is_blocked" = true)
    (k_is_blocked : PySem.W.keepIn K (.ref f_is_blocked) = true)
    (a_is_one_of : PySem.W.nsIn K mainGlobals "is_one_of" = some (some (.ref f_is_one_of)))
    (l_is_one_of : K.lookup f_is_one_of = some ⟨oc_is_one_of, od_is_one_of, .func (PySem.W.fnOf "is_one_of" "is_one_of" (defArgs s_is_one_of) (defBody s_is_one_of) (defScope s_is_one_of) .none kV_is_one_of dc_is_one_of pm_is_one_of an_is_one_of cd_is_one_of ct_is_one_of), sl_is_one_of⟩)
    (e_is_one_of : PySem.W.codeIn K cd_is_one_of "is_one_of" = true)
    (k_is_one_of : PySem.W.keepIn K (.ref f_is_one_of) = true)
    (a_is_way : PySem.W.nsIn K mainGlobals "is_way" = some (some (.ref f_is_way)))
    (l_is_way : K.lookup f_is_way = some ⟨oc_is_way, od_is_way, .func (PySem.W.fnOf "is_way" "is_way" (defArgs s_is_way) (defBody s_is_way) (defScope s_is_way) .none kV_is_way dc_is_way pm_is_way an_is_way cd_is_way ct_is_way), sl_is_way⟩)
    (e_is_way : PySem.W.codeIn K cd_is_way "is_way" = true)
    (k_is_way : PySem.W.keepIn K (.ref f_is_way) = true)
    (a_place_of : PySem.W.nsIn K mainGlobals "place_of" = some (some (.ref f_place_of)))
    (l_place_of : K.lookup f_place_of = some ⟨oc_place_of, od_place_of, .func (PySem.W.fnOf "place_of" "place_of" (defArgs s_place_of) (defBody s_place_of) (defScope s_place_of) .none kV_place_of dc_place_of pm_place_of an_place_of cd_place_of ct_place_of), sl_place_of⟩)
    (e_place_of : PySem.W.codeIn K cd_place_of "place_of" = true)
    (k_place_of : PySem.W.keepIn K (.ref f_place_of) = true)
    (a_taken_before : PySem.W.nsIn K mainGlobals "taken_before" = some (some (.ref f_taken_before)))
    (l_taken_before : K.lookup f_taken_before = some ⟨oc_taken_before, od_taken_before, .func (PySem.W.fnOf "taken_before" "taken_before" (defArgs s_taken_before) (defBody s_taken_before) (defScope s_taken_before) .none kV_taken_before dc_taken_before pm_taken_before an_taken_before cd_taken_before ct_taken_before), sl_taken_before⟩)
    (e_taken_before : PySem.W.codeIn K cd_taken_before "taken_before" = true)
    (k_taken_before : PySem.W.keepIn K (.ref f_taken_before) = true)
    (a_seats_given : PySem.W.nsIn K mainGlobals "seats_given" = some (some (.ref f_seats_given)))
    (l_seats_given : K.lookup f_seats_given = some ⟨oc_seats_given, od_seats_given, .func (PySem.W.fnOf "seats_given" "seats_given" (defArgs s_seats_given) (defBody s_seats_given) (defScope s_seats_given) .none kV_seats_given dc_seats_given pm_seats_given an_seats_given cd_seats_given ct_seats_given), sl_seats_given⟩)
    (e_seats_given : PySem.W.codeIn K cd_seats_given "seats_given" = true)
    (k_seats_given : PySem.W.keepIn K (.ref f_seats_given) = true)
    (a_changes_holds : PySem.W.nsIn K mainGlobals "changes_holds" = some (some (.ref f_changes_holds)))
    (l_changes_holds : K.lookup f_changes_holds = some ⟨oc_changes_holds, od_changes_holds, .func (PySem.W.fnOf "changes_holds" "changes_holds" (defArgs s_changes_holds) (defBody s_changes_holds) (defScope s_changes_holds) .none kV_changes_holds dc_changes_holds pm_changes_holds an_changes_holds cd_changes_holds ct_changes_holds), sl_changes_holds⟩)
    (e_changes_holds : PySem.W.codeIn K cd_changes_holds "changes_holds" = true)
    (k_changes_holds : PySem.W.keepIn K (.ref f_changes_holds) = true)
    (a_many_on : PySem.W.nsIn K mainGlobals "many_on" = some (some (.ref f_many_on)))
    (l_many_on : K.lookup f_many_on = some ⟨oc_many_on, od_many_on, .func (PySem.W.fnOf "many_on" "many_on" (defArgs s_many_on) (defBody s_many_on) (defScope s_many_on) .none kV_many_on dc_many_on pm_many_on an_many_on cd_many_on ct_many_on), sl_many_on⟩)
    (e_many_on : PySem.W.codeIn K cd_many_on "many_on" = true)
    (k_many_on : PySem.W.keepIn K (.ref f_many_on) = true)
    (a_no_seat_holds : PySem.W.nsIn K mainGlobals "no_seat_holds" = some (some (.ref f_no_seat_holds)))
    (l_no_seat_holds : K.lookup f_no_seat_holds = some ⟨oc_no_seat_holds, od_no_seat_holds, .func (PySem.W.fnOf "no_seat_holds" "no_seat_holds" (defArgs s_no_seat_holds) (defBody s_no_seat_holds) (defScope s_no_seat_holds) .none kV_no_seat_holds dc_no_seat_holds pm_no_seat_holds an_no_seat_holds cd_no_seat_holds ct_no_seat_holds), sl_no_seat_holds⟩)
    (e_no_seat_holds : PySem.W.codeIn K cd_no_seat_holds "no_seat_holds" = true)
    (k_no_seat_holds : PySem.W.keepIn K (.ref f_no_seat_holds) = true)
    (a_accepts : PySem.W.nsIn K mainGlobals "accepts" = some (some (.ref f_accepts)))
    (l_accepts : K.lookup f_accepts = some ⟨oc_accepts, od_accepts, .func (PySem.W.fnOf "accepts" "accepts" (defArgs s_accepts) (defBody s_accepts) (defScope s_accepts) .none kV_accepts dc_accepts pm_accepts an_accepts cd_accepts ct_accepts), sl_accepts⟩)
    (e_accepts : PySem.W.codeIn K cd_accepts "accepts" = true)
    (k_accepts : PySem.W.keepIn K (.ref f_accepts) = true)
    (a_law_right : PySem.W.nsIn K mainGlobals "_law_right" = some (some (.ref f_law_right)))
    (l_law_right : K.lookup f_law_right = some ⟨oc_law_right, od_law_right, .func (PySem.W.fnOf "_law_right" "_law_right" (defArgs s_law_right) (defBody s_law_right) (defScope s_law_right) .none kV_law_right dc_law_right pm_law_right an_law_right cd_law_right ct_law_right), sl_law_right⟩)
    (e_law_right : PySem.W.codeIn K cd_law_right "_law_right" = true)
    (k_law_right : PySem.W.keepIn K (.ref f_law_right) = true)
    (a_law : PySem.W.nsIn K mainGlobals "law" = some (some (.ref f_law)))
    (l_law : K.lookup f_law = some ⟨oc_law, od_law, .func (PySem.W.fnOf "law" "law" (defArgs s_law) (defBody s_law) (defScope s_law) .none kV_law dc_law pm_law an_law cd_law ct_law), sl_law⟩)
    (e_law : PySem.W.codeIn K cd_law "law" = true)
    (k_law : PySem.W.keepIn K (.ref f_law) = true)
    (v_LETTERS : PySem.W.nsIn K mainGlobals "LETTERS" = some (some (.str ("abcdefghijklmnopqrstuvwxyz" : Str) tv_LETTERS)))
    (v_MAX_SEATS : PySem.W.nsIn K mainGlobals "MAX_SEATS" = some (some (.int 20 tv_MAX_SEATS)))
    (v_MAX_TRIPS : PySem.W.nsIn K mainGlobals "MAX_TRIPS" = some (some (.int 24 tv_MAX_TRIPS)))
    (b_abs : PySem.W.nsIn K mainGlobals "abs" = some none)
    (b_all : PySem.W.nsIn K mainGlobals "all" = some none)
    (b_any : PySem.W.nsIn K mainGlobals "any" = some none)
    (b_bool : PySem.W.nsIn K mainGlobals "bool" = some none)
    (b_divmod : PySem.W.nsIn K mainGlobals "divmod" = some none)
    (b_enumerate : PySem.W.nsIn K mainGlobals "enumerate" = some none)
    (b_int : PySem.W.nsIn K mainGlobals "int" = some none)
    (b_isinstance : PySem.W.nsIn K mainGlobals "isinstance" = some none)
    (b_len : PySem.W.nsIn K mainGlobals "len" = some none)
    (b_min : PySem.W.nsIn K mainGlobals "min" = some none)
    (b_range : PySem.W.nsIn K mainGlobals "range" = some none)
    (b_sorted : PySem.W.nsIn K mainGlobals "sorted" = some none)
    (b_str : PySem.W.nsIn K mainGlobals "str" = some none)
    (b_tuple : PySem.W.nsIn K mainGlobals "tuple" = some none)
    (b_zip : PySem.W.nsIn K mainGlobals "zip" = some none)
    (nl : NoList K = true)
    : LawG l w K 8 63 "_law_script" mg fa h := by
  have e := hfa.symm.trans (PySem.W.mg_of X G a_law)
  obtain rfl : fa = f_law := Value.ref.inj (Option.some.inj e)
  let a : Ad := {
    CLine := mainGlobals,
    a_SIZES := a_SIZES,
    e_SIZES := e_SIZES,
    n_SIZES := n_SIZES,
    a_JUDGES := a_JUDGES,
    e_JUDGES := e_JUDGES,
    n_JUDGES := n_JUDGES,
    f_law_cell := f_law_cell,
    d_law_cell := PySem.W.fnOf "_law_cell" "_law_cell" (defArgs s_law_cell) (defBody s_law_cell) (defScope s_law_cell) .none kV_law_cell dc_law_cell pm_law_cell an_law_cell cd_law_cell ct_law_cell,
    f_law_pool := f_law_pool,
    d_law_pool := PySem.W.fnOf "_law_pool" "_law_pool" (defArgs s_law_pool) (defBody s_law_pool) (defScope s_law_pool) .none kV_law_pool dc_law_pool pm_law_pool an_law_pool cd_law_pool ct_law_pool,
    f_law_draw := f_law_draw,
    d_law_draw := PySem.W.fnOf "_law_draw" "_law_draw" (defArgs s_law_draw) (defBody s_law_draw) (defScope s_law_draw) .none kV_law_draw dc_law_draw pm_law_draw an_law_draw cd_law_draw ct_law_draw,
    f_law_by_startS := f_law_by_startS,
    d_law_by_startS := PySem.W.fnOf "_law_by_start" "_law_by_start" (defArgs s_law_by_startS) (defBody s_law_by_startS) (defScope s_law_by_startS) .none kV_law_by_startS dc_law_by_startS pm_law_by_startS an_law_by_startS cd_law_by_startS ct_law_by_startS,
    f_law_meet := f_law_meet,
    d_law_meet := PySem.W.fnOf "_law_meet" "_law_meet" (defArgs s_law_meet) (defBody s_law_meet) (defScope s_law_meet) .none kV_law_meet dc_law_meet pm_law_meet an_law_meet cd_law_meet ct_law_meet,
    f_law_choices := f_law_choices,
    d_law_choices := PySem.W.fnOf "_law_choices" "_law_choices" (defArgs s_law_choices) (defBody s_law_choices) (defScope s_law_choices) .none kV_law_choices dc_law_choices pm_law_choices an_law_choices cd_law_choices ct_law_choices,
    f_law_flat := f_law_flat,
    d_law_flat := PySem.W.fnOf "_law_flat" "_law_flat" (defArgs s_law_flat) (defBody s_law_flat) (defScope s_law_flat) .none kV_law_flat dc_law_flat pm_law_flat an_law_flat cd_law_flat ct_law_flat,
    f_law_drawn := f_law_drawn,
    d_law_drawn := PySem.W.fnOf "_law_drawn" "_law_drawn" (defArgs s_law_drawn) (defBody s_law_drawn) (defScope s_law_drawn) .none kV_law_drawn dc_law_drawn pm_law_drawn an_law_drawn cd_law_drawn ct_law_drawn,
    f_law_held := f_law_held,
    d_law_held := PySem.W.fnOf "_law_held" "_law_held" (defArgs s_law_held) (defBody s_law_held) (defScope s_law_held) .none kV_law_held dc_law_held pm_law_held an_law_held cd_law_held ct_law_held,
    f_law_fewest := f_law_fewest,
    d_law_fewest := PySem.W.fnOf "_law_fewest" "_law_fewest" (defArgs s_law_fewest) (defBody s_law_fewest) (defScope s_law_fewest) .none kV_law_fewest dc_law_fewest pm_law_fewest an_law_fewest cd_law_fewest ct_law_fewest,
    f_law_pairs := f_law_pairs,
    d_law_pairs := PySem.W.fnOf "_law_pairs" "_law_pairs" (defArgs s_law_pairs) (defBody s_law_pairs) (defScope s_law_pairs) .none kV_law_pairs dc_law_pairs pm_law_pairs an_law_pairs cd_law_pairs ct_law_pairs,
    f_law_parts := f_law_parts,
    d_law_parts := PySem.W.fnOf "_law_parts" "_law_parts" (defArgs s_law_parts) (defBody s_law_parts) (defScope s_law_parts) .none kV_law_parts dc_law_parts pm_law_parts an_law_parts cd_law_parts ct_law_parts,
    f_law_words := f_law_words,
    d_law_words := PySem.W.fnOf "_law_words" "_law_words" (defArgs s_law_words) (defBody s_law_words) (defScope s_law_words) .none kV_law_words dc_law_words pm_law_words an_law_words cd_law_words ct_law_words,
    f_is_whole := f_is_whole,
    d_is_whole := PySem.W.fnOf "is_whole" "is_whole" (defArgs s_is_whole) (defBody s_is_whole) (defScope s_is_whole) .none kV_is_whole dc_is_whole pm_is_whole an_is_whole cd_is_whole ct_is_whole,
    f_are_stations := f_are_stations,
    d_are_stations := PySem.W.fnOf "are_stations" "are_stations" (defArgs s_are_stations) (defBody s_are_stations) (defScope s_are_stations) .none kV_are_stations dc_are_stations pm_are_stations an_are_stations cd_are_stations ct_are_stations,
    f_is_tuple_of := f_is_tuple_of,
    d_is_tuple_of := PySem.W.fnOf "is_tuple_of" "is_tuple_of" (defArgs s_is_tuple_of) (defBody s_is_tuple_of) (defScope s_is_tuple_of) .none kV_is_tuple_of dc_is_tuple_of pm_is_tuple_of an_is_tuple_of cd_is_tuple_of ct_is_tuple_of,
    f_is_booked := f_is_booked,
    d_is_booked := PySem.W.fnOf "is_booked" "is_booked" (defArgs s_is_booked) (defBody s_is_booked) (defScope s_is_booked) .none kV_is_booked dc_is_booked pm_is_booked an_is_booked cd_is_booked ct_is_booked,
    f_are_of_a_line := f_are_of_a_line,
    d_are_of_a_line := PySem.W.fnOf "are_of_a_line" "are_of_a_line" (defArgs s_are_of_a_line) (defBody s_are_of_a_line) (defScope s_are_of_a_line) .none kV_are_of_a_line dc_are_of_a_line pm_are_of_a_line an_are_of_a_line cd_are_of_a_line ct_are_of_a_line,
    f_overlap := f_overlap,
    d_overlap := PySem.W.fnOf "overlap" "overlap" (defArgs s_overlap) (defBody s_overlap) (defScope s_overlap) .none kV_overlap dc_overlap pm_overlap an_overlap cd_overlap ct_overlap,
    f_is_unoccupied := f_is_unoccupied,
    d_is_unoccupied := PySem.W.fnOf "is_unoccupied" "is_unoccupied" (defArgs s_is_unoccupied) (defBody s_is_unoccupied) (defScope s_is_unoccupied) .none kV_is_unoccupied dc_is_unoccupied pm_is_unoccupied an_is_unoccupied cd_is_unoccupied ct_is_unoccupied,
    f_is_blocked := f_is_blocked,
    d_is_blocked := PySem.W.fnOf "is_blocked" "is_blocked" (defArgs s_is_blocked) (defBody s_is_blocked) (defScope s_is_blocked) .none kV_is_blocked dc_is_blocked pm_is_blocked an_is_blocked cd_is_blocked ct_is_blocked,
    f_is_one_of := f_is_one_of,
    d_is_one_of := PySem.W.fnOf "is_one_of" "is_one_of" (defArgs s_is_one_of) (defBody s_is_one_of) (defScope s_is_one_of) .none kV_is_one_of dc_is_one_of pm_is_one_of an_is_one_of cd_is_one_of ct_is_one_of,
    f_is_way := f_is_way,
    d_is_way := PySem.W.fnOf "is_way" "is_way" (defArgs s_is_way) (defBody s_is_way) (defScope s_is_way) .none kV_is_way dc_is_way pm_is_way an_is_way cd_is_way ct_is_way,
    f_place_of := f_place_of,
    d_place_of := PySem.W.fnOf "place_of" "place_of" (defArgs s_place_of) (defBody s_place_of) (defScope s_place_of) .none kV_place_of dc_place_of pm_place_of an_place_of cd_place_of ct_place_of,
    f_taken_before := f_taken_before,
    d_taken_before := PySem.W.fnOf "taken_before" "taken_before" (defArgs s_taken_before) (defBody s_taken_before) (defScope s_taken_before) .none kV_taken_before dc_taken_before pm_taken_before an_taken_before cd_taken_before ct_taken_before,
    f_seats_given := f_seats_given,
    d_seats_given := PySem.W.fnOf "seats_given" "seats_given" (defArgs s_seats_given) (defBody s_seats_given) (defScope s_seats_given) .none kV_seats_given dc_seats_given pm_seats_given an_seats_given cd_seats_given ct_seats_given,
    f_changes_holds := f_changes_holds,
    d_changes_holds := PySem.W.fnOf "changes_holds" "changes_holds" (defArgs s_changes_holds) (defBody s_changes_holds) (defScope s_changes_holds) .none kV_changes_holds dc_changes_holds pm_changes_holds an_changes_holds cd_changes_holds ct_changes_holds,
    f_many_on := f_many_on,
    d_many_on := PySem.W.fnOf "many_on" "many_on" (defArgs s_many_on) (defBody s_many_on) (defScope s_many_on) .none kV_many_on dc_many_on pm_many_on an_many_on cd_many_on ct_many_on,
    f_no_seat_holds := f_no_seat_holds,
    d_no_seat_holds := PySem.W.fnOf "no_seat_holds" "no_seat_holds" (defArgs s_no_seat_holds) (defBody s_no_seat_holds) (defScope s_no_seat_holds) .none kV_no_seat_holds dc_no_seat_holds pm_no_seat_holds an_no_seat_holds cd_no_seat_holds ct_no_seat_holds,
    f_accepts := f_accepts,
    d_accepts := PySem.W.fnOf "accepts" "accepts" (defArgs s_accepts) (defBody s_accepts) (defScope s_accepts) .none kV_accepts dc_accepts pm_accepts an_accepts cd_accepts ct_accepts,
    f_law_right := f_law_right,
    d_law_right := PySem.W.fnOf "_law_right" "_law_right" (defArgs s_law_right) (defBody s_law_right) (defScope s_law_right) .none kV_law_right dc_law_right pm_law_right an_law_right cd_law_right ct_law_right,
    f_law := fa,
    d_law := PySem.W.fnOf "law" "law" (defArgs s_law) (defBody s_law) (defScope s_law) .none kV_law dc_law pm_law an_law cd_law ct_law }
  have t : Tx w K mg a := {
    D_SIZES := ⟨kd_SIZES, kl_SIZES, lo_SIZES⟩,
    ks_SIZES := ks_SIZES,
    g_SIZES := PySem.W.mg_of X G g_SIZES,
    v_SIZES_plan := ⟨_, v_SIZES_plan⟩,
    v_SIZES_no_plan := ⟨_, v_SIZES_no_plan⟩,
    v_SIZES_route := ⟨_, v_SIZES_route⟩,
    v_SIZES_fixed := ⟨_, v_SIZES_fixed⟩,
    v_SIZES_not_fixed := ⟨_, v_SIZES_not_fixed⟩,
    v_SIZES_number := ⟨_, v_SIZES_number⟩,
    v_SIZES_changes := ⟨_, v_SIZES_changes⟩,
    v_SIZES_no_seat := ⟨_, v_SIZES_no_seat⟩,
    D_JUDGES := ⟨kd_JUDGES, kl_JUDGES, lo_JUDGES⟩,
    ks_JUDGES := ks_JUDGES,
    g_JUDGES := PySem.W.mg_of X G g_JUDGES,
    j_JUDGES_changes := j_JUDGES_changes,
    j_JUDGES_no_seat := j_JUDGES_no_seat,
    F_law_cell := fun_mk l_law_cell e_law_cell k_law_cell,
    g__law_cell := PySem.W.mg_of X G a_law_cell,
    k__law_cell := k_law_cell,
    F_law_pool := fun_mk l_law_pool e_law_pool k_law_pool,
    g__law_pool := PySem.W.mg_of X G a_law_pool,
    k__law_pool := k_law_pool,
    F_law_draw := fun_mk l_law_draw e_law_draw k_law_draw,
    g__law_draw := PySem.W.mg_of X G a_law_draw,
    k__law_draw := k_law_draw,
    F_law_by_startS := fun_mk l_law_by_startS e_law_by_startS k_law_by_startS,
    g__law_by_start := PySem.W.mg_of X G a_law_by_startS,
    k__law_by_start := k_law_by_startS,
    F_law_meet := fun_mk l_law_meet e_law_meet k_law_meet,
    g__law_meet := PySem.W.mg_of X G a_law_meet,
    k__law_meet := k_law_meet,
    F_law_choices := fun_mk l_law_choices e_law_choices k_law_choices,
    g__law_choices := PySem.W.mg_of X G a_law_choices,
    k__law_choices := k_law_choices,
    F_law_flat := fun_mk l_law_flat e_law_flat k_law_flat,
    g__law_flat := PySem.W.mg_of X G a_law_flat,
    k__law_flat := k_law_flat,
    F_law_drawn := fun_mk l_law_drawn e_law_drawn k_law_drawn,
    g__law_drawn := PySem.W.mg_of X G a_law_drawn,
    k__law_drawn := k_law_drawn,
    F_law_held := fun_mk l_law_held e_law_held k_law_held,
    g__law_held := PySem.W.mg_of X G a_law_held,
    k__law_held := k_law_held,
    F_law_fewest := fun_mk l_law_fewest e_law_fewest k_law_fewest,
    g__law_fewest := PySem.W.mg_of X G a_law_fewest,
    k__law_fewest := k_law_fewest,
    F_law_pairs := fun_mk l_law_pairs e_law_pairs k_law_pairs,
    g__law_pairs := PySem.W.mg_of X G a_law_pairs,
    k__law_pairs := k_law_pairs,
    F_law_parts := fun_mk l_law_parts e_law_parts k_law_parts,
    g__law_parts := PySem.W.mg_of X G a_law_parts,
    k__law_parts := k_law_parts,
    F_law_words := fun_mk l_law_words e_law_words k_law_words,
    g__law_words := PySem.W.mg_of X G a_law_words,
    k__law_words := k_law_words,
    F_is_whole := fun_mk l_is_whole e_is_whole k_is_whole,
    g_is_whole := PySem.W.mg_of X G a_is_whole,
    k_is_whole := k_is_whole,
    F_are_stations := fun_mk l_are_stations e_are_stations k_are_stations,
    g_are_stations := PySem.W.mg_of X G a_are_stations,
    k_are_stations := k_are_stations,
    F_is_tuple_of := fun_mk l_is_tuple_of e_is_tuple_of k_is_tuple_of,
    g_is_tuple_of := PySem.W.mg_of X G a_is_tuple_of,
    k_is_tuple_of := k_is_tuple_of,
    F_is_booked := fun_mk l_is_booked e_is_booked k_is_booked,
    g_is_booked := PySem.W.mg_of X G a_is_booked,
    k_is_booked := k_is_booked,
    F_are_of_a_line := fun_mk l_are_of_a_line e_are_of_a_line k_are_of_a_line,
    g_are_of_a_line := PySem.W.mg_of X G a_are_of_a_line,
    k_are_of_a_line := k_are_of_a_line,
    F_overlap := fun_mk l_overlap e_overlap k_overlap,
    g_overlap := PySem.W.mg_of X G a_overlap,
    k_overlap := k_overlap,
    F_is_unoccupied := fun_mk l_is_unoccupied e_is_unoccupied k_is_unoccupied,
    g_is_unoccupied := PySem.W.mg_of X G a_is_unoccupied,
    k_is_unoccupied := k_is_unoccupied,
    F_is_blocked := fun_mk l_is_blocked e_is_blocked k_is_blocked,
    g_is_blocked := PySem.W.mg_of X G a_is_blocked,
    k_is_blocked := k_is_blocked,
    F_is_one_of := fun_mk l_is_one_of e_is_one_of k_is_one_of,
    g_is_one_of := PySem.W.mg_of X G a_is_one_of,
    k_is_one_of := k_is_one_of,
    F_is_way := fun_mk l_is_way e_is_way k_is_way,
    g_is_way := PySem.W.mg_of X G a_is_way,
    k_is_way := k_is_way,
    F_place_of := fun_mk l_place_of e_place_of k_place_of,
    g_place_of := PySem.W.mg_of X G a_place_of,
    k_place_of := k_place_of,
    F_taken_before := fun_mk l_taken_before e_taken_before k_taken_before,
    g_taken_before := PySem.W.mg_of X G a_taken_before,
    k_taken_before := k_taken_before,
    F_seats_given := fun_mk l_seats_given e_seats_given k_seats_given,
    g_seats_given := PySem.W.mg_of X G a_seats_given,
    k_seats_given := k_seats_given,
    F_changes_holds := fun_mk l_changes_holds e_changes_holds k_changes_holds,
    g_changes_holds := PySem.W.mg_of X G a_changes_holds,
    k_changes_holds := k_changes_holds,
    F_many_on := fun_mk l_many_on e_many_on k_many_on,
    g_many_on := PySem.W.mg_of X G a_many_on,
    k_many_on := k_many_on,
    F_no_seat_holds := fun_mk l_no_seat_holds e_no_seat_holds k_no_seat_holds,
    g_no_seat_holds := PySem.W.mg_of X G a_no_seat_holds,
    k_no_seat_holds := k_no_seat_holds,
    F_accepts := fun_mk l_accepts e_accepts k_accepts,
    g_accepts := PySem.W.mg_of X G a_accepts,
    k_accepts := k_accepts,
    F_law_right := fun_mk l_law_right e_law_right k_law_right,
    g__law_right := PySem.W.mg_of X G a_law_right,
    k__law_right := k_law_right,
    F_law := fun_mk l_law e_law k_law,
    g_law := PySem.W.mg_of X G a_law,
    k_law := k_law,
    v_LETTERS := ⟨_, PySem.W.mg_of X G v_LETTERS, ⟨_, rfl⟩⟩,
    v_MAX_SEATS := ⟨_, PySem.W.mg_of X G v_MAX_SEATS, ⟨_, rfl⟩⟩,
    v_MAX_TRIPS := ⟨_, PySem.W.mg_of X G v_MAX_TRIPS, ⟨_, rfl⟩⟩,
    b_abs := PySem.W.mg_none_of X G b_abs,
    b_all := PySem.W.mg_none_of X G b_all,
    b_any := PySem.W.mg_none_of X G b_any,
    b_bool := PySem.W.mg_none_of X G b_bool,
    b_divmod := PySem.W.mg_none_of X G b_divmod,
    b_enumerate := PySem.W.mg_none_of X G b_enumerate,
    b_int := PySem.W.mg_none_of X G b_int,
    b_isinstance := PySem.W.mg_none_of X G b_isinstance,
    b_len := PySem.W.mg_none_of X G b_len,
    b_min := PySem.W.mg_none_of X G b_min,
    b_range := PySem.W.mg_none_of X G b_range,
    b_sorted := PySem.W.mg_none_of X G b_sorted,
    b_str := PySem.W.mg_none_of X G b_str,
    b_tuple := PySem.W.mg_none_of X G b_tuple,
    b_zip := PySem.W.mg_none_of X G b_zip }
  refine ⟨a.d_law, [], TT a, sp_law K a.CLine, (fun p hp => absurd hp List.not_mem_nil), (fun p hp => absurd hp List.not_mem_nil), (fun p hp => absurd hp List.not_mem_nil), nl, (fun p hp => absurd hp List.not_mem_nil), (fun s u => .of_eq rfl), (fun ns hl _ => ⟨ns, rfl, hl, rfl⟩), ?_⟩
  exact fun base _ _ TB => Z.FnOk.g (ok_law t trivial)
end ZK
set_option Elab.async false
def PySem.W.Fast.tw7894377874910078931 : Nat := 0
def PySem.W.Fast.tw901165169854662927 : Nat := 0
def PySem.W.Fast.tw15776433046219244607 : Nat := 0
def PySem.W.Fast.tw799620662501064091 : Nat := 0
def PySem.W.Fast.tw7612040608413165810 : Nat := 0
def PySem.W.Fast.tw15888499439310748191 : Nat := 0
def PySem.W.Fast.tw6267396692553387630 : Nat := 0
def PySem.W.Fast.tw12631149466079988197 : Nat := 0
def PySem.W.Fast.tw6063350161335370290 : Nat := 0
def PySem.W.Fast.tw3808451684274383252 : Nat := 0
def PySem.W.Fast.tw13507332571189448967 : Nat := 0
def PySem.W.Fast.tw17150434279649054887 : Nat := 0
def PySem.W.Fast.tw5339315063067157056 : Nat := 0
def PySem.W.Fast.tw7253514393415268953 : Nat := 0
def PySem.W.Fast.tw13141193070529365148 : Nat := 0
def PySem.W.Fast.tw4680802160707687044 : Nat := 0
def PySem.W.Fast.tw1993604050058561446 : Nat := 0
def PySem.W.Fast.tw3217667381940289948 : Nat := 0
def PySem.W.Fast.tw5594124792241912355 : Nat := 0
def PySem.W.Fast.tw7959042566297852523 : Nat := 0
def PySem.W.Fast.tw7593075643609290116 : Nat := 0
def PySem.W.Fast.tw8750917261495257045 : Nat := 0
def PySem.W.Fast.tw2573160894227366901 : Nat := 0
def PySem.W.Fast.tw6388546692673727962 : Nat := 0
def PySem.W.Fast.tw16317687840624015431 : Nat := 0
def PySem.W.Fast.tw15551254135520961200 : Nat := 0
def PySem.W.Fast.tw571103518611872420 : Nat := 0
def PySem.W.Fast.tw3951102932690010738 : Nat := 0
def PySem.W.Fast.tw14879182325613073030 : Nat := 0
def PySem.W.Fast.tw17870379549517734283 : Nat := 0
def PySem.W.Fast.tw8833693186649555839 : Nat := 0
def PySem.W.Fast.tw9859503199628144273 : Nat := 0
def PySem.W.Fast.tw9871167632209557083 : Nat := 0
def PySem.W.Fast.tw5070670669315885134 : Nat := 0
def PySem.W.Fast.tw3426405527875118361 : Nat := 0
def PySem.W.Fast.tw7246049303577784386 : Nat := 0
def PySem.W.Fast.tw3135396772464620341 : Nat := 0
def PySem.W.Fast.tw5121478484400932700 : Nat := 0
def PySem.W.Fast.tw10654813003779068238 : Nat := 0
def PySem.W.Fast.tw6956594734416377008 : Nat := 0
def PySem.W.Fast.tw13450699642113185068 : Nat := 0
def PySem.W.Fast.tw6279080292001058693 : Nat := 0
def PySem.W.Fast.tw16171122699197779639 : Nat := 0
def PySem.W.Fast.tw8550625461954932063 : Nat := 0
def PySem.W.Fast.tw1631877762783351554 : Nat := 0
def PySem.W.Fast.tw6326315803044476532 : Nat := 0
def PySem.W.Fast.tw5704254882422784250 : Nat := 0
def PySem.W.Fast.tw13570100926077242499 : Nat := 0
def PySem.W.Fast.tw442009371385664393 : Nat := 0
def PySem.W.Fast.tw6038722538154431946 : Nat := 0
def PySem.W.Fast.tw16906028657307185118 : Nat := 0
def PySem.W.Fast.tw3451390909743746413 : Nat := 0
def PySem.W.Fast.tw16759153085554146181 : Nat := 0
def PySem.W.Fast.tw10130104186491404510 : Nat := 0
def PySem.W.Fast.tw17440421972655113352 : Nat := 0
def PySem.W.Fast.tw8438572923604557124 : Nat := 0
def PySem.W.Fast.tw17937610845552926795 : Nat := 0
def PySem.W.Fast.tw16071332149999446528 : Nat := 0
def PySem.W.Fast.tw12591713175906667091 : Nat := 0
def PySem.W.Fast.tw10226933210656001637 : Nat := 0
def PySem.W.Fast.tw10690370014168586459 : Nat := 0
def PySem.W.Fast.tw54194169642819663 : Nat := 0
def PySem.W.Fast.tw13453298372511605138 : Nat := 0
def PySem.W.Fast.tw5942602348050315454 : Nat := 0
def PySem.W.Fast.tw17551015116702977247 : Nat := 0
def PySem.W.Fast.tw17823977208844878895 : Nat := 0
def PySem.W.Fast.tw1686198409140788650 : Nat := 0
def PySem.W.Fast.tw3541428071885237670 : Nat := 0
def PySem.W.Fast.tw9991903315596254116 : Nat := 0
def PySem.W.Fast.tw6448996289818405374 : Nat := 0
def PySem.W.Fast.tw14933668565664151363 : Nat := 0
def PySem.W.Fast.tw18163900914144446972 : Nat := 0
def PySem.W.Fast.tw9109393742796200526 : Nat := 0
def PySem.W.Fast.tw2858105929552969390 : Nat := 0
def PySem.W.Fast.tw8881346153557568146 : Nat := 0
def PySem.W.Fast.tw4795710459315476789 : Nat := 0
def PySem.W.Fast.tw14462113691718589443 : Nat := 0
def PySem.W.Fast.tw8222074746200370982 : Nat := 0
def PySem.W.Fast.tw11656869166722581670 : Nat := 0
def PySem.W.Fast.tw6296030337532813148 : Nat := 0
def PySem.W.Fast.tw1293111651795775583 : Nat := 0
def PySem.W.Fast.tw14657603069640547247 : Nat := 0
def PySem.W.Fast.tw16605555021744181570 : Nat := 0
def PySem.W.Fast.tw8253199488849349637 : Nat := 0
def PySem.W.Fast.tw13993816051010785552 : Nat := 0
def PySem.W.Fast.tw12124559407154391603 : Nat := 0
def PySem.W.Fast.tw2415043257518823909 : Nat := 0
def PySem.W.Fast.tw3344263531776411153 : Nat := 0
def PySem.W.Fast.tw16069809858492311684 : Nat := 0
def PySem.W.Fast.tw12439163213410688878 : Nat := 0
def PySem.W.Fast.tw16139729836364483820 : Nat := 0
def PySem.W.Fast.tw899484240368443150 : Nat := 0
def PySem.W.Fast.tw13403630987620981340 : Nat := 0
def PySem.W.Fast.tw15140322138093646789 : Nat := 0
def PySem.W.Fast.tw12123863588917254262 : Nat := 0
def PySem.W.Fast.tw3211655268250085262 : Nat := 0
def PySem.W.Fast.tw4581044054887844122 : Nat := 0
def PySem.W.Fast.tw10169379136609724248 : Nat := 0
def PySem.W.Fast.tw1710548003046335951 : Nat := 0
def PySem.W.Fast.tw7744962455311736347 : Nat := 0
def PySem.W.Fast.tw8085773493183228522 : Nat := 0
def PySem.W.Fast.tw6005392923534229777 : Nat := 0
def PySem.W.Fast.tw5600349859659305356 : Nat := 0
def PySem.W.Fast.tw1141836201495764963 : Nat := 0
def PySem.W.Fast.tw12372888207112690069 : Nat := 0
def PySem.W.Fast.tw6544355409466753309 : Nat := 0
def PySem.W.Fast.tw3659074469376372675 : Nat := 0
def PySem.W.Fast.tw5127315344492279153 : Nat := 0
def PySem.W.Fast.tw17754868864544702093 : Nat := 0
def PySem.W.Fast.tw16711500611466716513 : Nat := 0
def PySem.W.Fast.tw2566357800423161363 : Nat := 0
def PySem.W.Fast.tw15884961331160506084 : Nat := 0
def PySem.W.Fast.tw11692287226591039524 : Nat := 0
def PySem.W.Fast.tw13795443900585553120 : Nat := 0
def PySem.W.Fast.tw4237705047610153924 : Nat := 0
def PySem.W.Fast.tw7856736335821243367 : Nat := 0
def PySem.W.Fast.tw12918898260863046951 : Nat := 0
def PySem.W.Fast.tw1507151099250722141 : Nat := 0
def PySem.W.Fast.tw5760657215926247554 : Nat := 0
def PySem.W.Fast.tw17498254175793077585 : Nat := 0
def PySem.W.Fast.tw4663719072958189436 : Nat := 0
def PySem.W.Fast.tw12308331404233970289 : Nat := 0
def PySem.W.Fast.tw18222196281674110730 : Nat := 0
def PySem.W.Fast.tw3417330658162177958 : Nat := 0
def PySem.W.Fast.tw15444867775927760209 : Nat := 0
def PySem.W.Fast.tw16974377076079436269 : Nat := 0
def PySem.W.Fast.tw14015144643327378940 : Nat := 0
def PySem.W.Fast.tw17619363251832471747 : Nat := 0
def PySem.W.Fast.tw5207377116233923453 : Nat := 0
def PySem.W.Fast.tw4954317931828073005 : Nat := 0
def PySem.W.Fast.tw13019816075153001761 : Nat := 0
def PySem.W.Fast.tw10069647990810676431 : Nat := 0
def PySem.W.Fast.tw285105522675443406 : Nat := 0
def PySem.W.Fast.tw6635138642106124460 : Nat := 0
def PySem.W.Fast.tw13849732494902099512 : Nat := 0
def PySem.W.Fast.tw15574008239712692774 : Nat := 0
def PySem.W.Fast.tw11037560849588291862 : Nat := 0
def PySem.W.Fast.tw8990366349369327703 : Nat := 0
def PySem.W.Fast.tw12383626355250416242 : Nat := 0
def PySem.W.Fast.tw11743743579517165839 : Nat := 0
def PySem.W.Fast.tw2025831375108761516 : Nat := 0
def PySem.W.Fast.tw6819602285680519869 : Nat := 0
def PySem.W.Fast.tw7797050346788085521 : Nat := 0
def PySem.W.Fast.tw6618002936917174525 : Nat := 0
def PySem.W.Fast.tw17300863173437558097 : Nat := 0
def PySem.W.Fast.tw18058990458065982455 : Nat := 0
def PySem.W.Fast.tw11918989719286115704 : Nat := 0
def PySem.W.Fast.tw4255796028078204482 : Nat := 0
def PySem.W.Fast.tw11833597801624158217 : Nat := 0
def PySem.W.Fast.tw7528631399367378814 : Nat := 0
def PySem.W.Fast.tw10641350512949184384 : Nat := 0
def PySem.W.Fast.tw13570710093880671906 : Nat := 0
def PySem.W.Fast.tw863010393243109528 : Nat := 0
def PySem.W.Fast.tw15400984663783185103 : Nat := 0
def PySem.W.Fast.tw15904312237529982375 : Nat := 0
def PySem.W.Fast.tw8863321392672051765 : Nat := 0
def PySem.W.Fast.tw10469088252853570674 : Nat := 0
def PySem.W.Fast.tw11784883653937779921 : Nat := 0
def PySem.W.Fast.tw5199889264740632087 : Nat := 0
def PySem.W.Fast.tw6959559320162774695 : Nat := 0
def PySem.W.Fast.tw8049028646162569867 : Nat := 0
def PySem.W.Fast.tw15482410170295068665 : Nat := 0
def PySem.W.Fast.tw14859420662541629345 : Nat := 0
def PySem.W.Fast.tw1132937702069288902 : Nat := 0
def PySem.W.Fast.tw643793105648444430 : Nat := 0
def PySem.W.Fast.tw4756295062224779880 : Nat := 0
def PySem.W.Fast.tw3224976684854865444 : Nat := 0
def PySem.W.Fast.tw7313117457675434299 : Nat := 0
def PySem.W.Fast.tw5865930871054127271 : Nat := 0
def PySem.W.Fast.tw2327807893795272064 : Nat := 0
def PySem.W.Fast.tw4418184053296488078 : Nat := 0
def PySem.W.Fast.tw3709832072647135902 : Nat := 0
def PySem.W.Fast.tw6330501968740453647 : Nat := 0
def PySem.W.Fast.tw8309999811707791837 : Nat := 0
def PySem.W.Fast.tw2207551941661212538 : Nat := 0
def PySem.W.Fast.tw12608776250168227527 : Nat := 0
def PySem.W.Fast.tw8167220008535598093 : Nat := 0
def PySem.W.Fast.tw10090164379718933223 : Nat := 0
def PySem.W.Fast.tw11715227117914692042 : Nat := 0
def PySem.W.Fast.tw9308511273597954370 : Nat := 0
def PySem.W.Fast.tw10710180316038437054 : Nat := 0
def PySem.W.Fast.tw10736393135166604991 : Nat := 0
def PySem.W.Fast.tw6690602908976366644 : Nat := 0
def PySem.W.Fast.tw9505114683023862136 : Nat := 0
def PySem.W.Fast.tw12899284863055833517 : Nat := 0
def PySem.W.Fast.tw12669164461793039667 : Nat := 0
def PySem.W.Fast.tw9148628901310136687 : Nat := 0
def PySem.W.Fast.tw12222048299062848486 : Nat := 0
def PySem.W.Fast.tw955035879749176614 : Nat := 0
def PySem.W.Fast.tw4446312481746937636 : Nat := 0
def PySem.W.Fast.tw1688262000726350570 : Nat := 0
def PySem.W.Fast.tw8194385458880200692 : Nat := 0
def PySem.W.Fast.tw1282319741315006753 : Nat := 0
def PySem.W.Fast.tw2271862251070170711 : Nat := 0
def PySem.W.Fast.tw1675575412896548692 : Nat := 0
def PySem.W.Fast.tw13195139380987253261 : Nat := 0
def PySem.W.Fast.tw17904691486921615930 : Nat := 0
def PySem.W.Fast.tw2264575376675506379 : Nat := 0
def PySem.W.Fast.tw15450987981575950476 : Nat := 0
def PySem.W.Fast.tw7679184819536062253 : Nat := 0
def PySem.W.Fast.tw8665592335461683867 : Nat := 0
def PySem.W.Fast.tw12844472031246601577 : Nat := 0
def PySem.W.Fast.tw4645920153112487449 : Nat := 0
def PySem.W.Fast.tw9541454556882937407 : Nat := 0
def PySem.W.Fast.tw13710961563180158642 : Nat := 0
def PySem.W.Fast.tw12638075766522703221 : Nat := 0
def PySem.W.Fast.tw9628909298220399268 : Nat := 0
def PySem.W.Fast.tw16303855402922564001 : Nat := 0
def PySem.W.Fast.tw2355324686556262114 : Nat := 0
def PySem.W.Fast.tw4782936885320780333 : Nat := 0
def PySem.W.Fast.tw8284256724649873604 : Nat := 0
def PySem.W.Fast.tw12591869349865438100 : Nat := 0
def PySem.W.Fast.tw16780176965915637849 : Nat := 0
def PySem.W.Fast.tw14707410763498724992 : Nat := 0
def PySem.W.Fast.tw1354812870020595790 : Nat := 0
def PySem.W.Fast.tw17009409119163541052 : Nat := 0
def PySem.W.Fast.tw5454418362470015511 : Nat := 0
def PySem.W.Fast.tw17609039753727929324 : Nat := 0
def PySem.W.Fast.tw966474213352704 : Nat := 0
def PySem.W.Fast.tw2538480625897095709 : Nat := 0
def PySem.W.Fast.tw6180326686312304944 : Nat := 0
def PySem.W.Fast.tw6779211750783458952 : Nat := 0
def PySem.W.Fast.tw15632342075985078872 : Nat := 0
def PySem.W.Fast.tw16799004871096462300 : Nat := 0
def PySem.W.Fast.tw15108378046554210513 : Nat := 0
def PySem.W.Fast.tw13119847274240472540 : Nat := 0
def PySem.W.Fast.tw1063910824483096615 : Nat := 0
def PySem.W.Fast.tw6324026943352526403 : Nat := 0
def PySem.W.Fast.tw1385851796073195727 : Nat := 0
def PySem.W.Fast.tw15881632151451766437 : Nat := 0
def PySem.W.Fast.tw1749122255064593996 : Nat := 0
def PySem.W.Fast.tw9015112144658000420 : Nat := 0
def PySem.W.Fast.tw14567777168355503264 : Nat := 0
def PySem.W.Fast.tw2544169196943958900 : Nat := 0
def PySem.W.Fast.tw6088588650470206058 : Nat := 0
def PySem.W.Fast.tw17099813140374533878 : Nat := 0
def PySem.W.Fast.tw13856219760972470728 : Nat := 0
def PySem.W.Fast.tw4931828742850854016 : Nat := 0
def PySem.W.Fast.tw12031184655282206966 : Nat := 0
def PySem.W.Fast.tw13937647825286960175 : Nat := 0
def PySem.W.Fast.tw10190099663534432719 : Nat := 0
def PySem.W.Fast.tw12721828998679902263 : Nat := 0
def PySem.W.Fast.tw12988903729845971827 : Nat := 0
def PySem.W.Fast.tw17722603718249690764 : Nat := 0
def PySem.W.Fast.tw3064786457447153562 : Nat := 0
def PySem.W.Fast.tw12384980435070380443 : Nat := 0
def PySem.W.Fast.tw13290046549511556625 : Nat := 0
def PySem.W.Fast.tw11489601518493382141 : Nat := 0
def PySem.W.Fast.tw3386473532090314864 : Nat := 0
def PySem.W.Fast.tw1042514222480863409 : Nat := 0
def PySem.W.Fast.tw3891312237952206740 : Nat := 0
def PySem.W.Fast.tw267295086354355481 : Nat := 0
def PySem.W.Fast.tw16387085293424544145 : Nat := 0
def PySem.W.Fast.tw9923361900682117311 : Nat := 0
def PySem.W.Fast.tw1299404747097122924 : Nat := 0
def PySem.W.Fast.tw2587285729653309631 : Nat := 0
def PySem.W.Fast.tw6555988704119192093 : Nat := 0
def PySem.W.Fast.tw6691935397372493088 : Nat := 0
def PySem.W.Fast.tw13331059934476460726 : Nat := 0
def PySem.W.Fast.tw5078436797724501898 : Nat := 0
def PySem.W.Fast.tw3989279331085174311 : Nat := 0
def PySem.W.Fast.tw6374012269581589454 : Nat := 0
def PySem.W.Fast.tw17382919229946824366 : Nat := 0
def PySem.W.Fast.tw15403187809020490635 : Nat := 0
def PySem.W.Fast.tw1008649737158833023 : Nat := 0
def PySem.W.Fast.tw181439146356328090 : Nat := 0
def PySem.W.Fast.tw12941205167128541899 : Nat := 0
def PySem.W.Fast.tw5981907035854382487 : Nat := 0
def PySem.W.Fast.tw5607305488629769327 : Nat := 0
def PySem.W.Fast.tw3931869234155526016 : Nat := 0
def PySem.W.Fast.tw3383989933152563871 : Nat := 0
def PySem.W.Fast.tw5571267912240906631 : Nat := 0
def PySem.W.Fast.tw11290281108092555590 : Nat := 0
def PySem.W.Fast.tw394011295259787651 : Nat := 0
def PySem.W.Fast.tw918107263277344728 : Nat := 0
def PySem.W.Fast.tw602858649318819500 : Nat := 0
def PySem.W.Fast.tw9974882323911581133 : Nat := 0
def PySem.W.Fast.tw11450816443343592266 : Nat := 0
def PySem.W.Fast.tw16214178197110308170 : Nat := 0
def PySem.W.Fast.tw13260322849527943733 : Nat := 0
def PySem.W.Fast.tw17277744558174851882 : Nat := 0
def PySem.W.Fast.tw3287118941110542393 : Nat := 0
def PySem.W.Fast.tw13339551550945231924 : Nat := 0
def PySem.W.Fast.tw3755506182124479301 : Nat := 0
def PySem.W.Fast.tw2456915633267912748 : Nat := 0
def PySem.W.Fast.tw11508547318230653063 : Nat := 0
def PySem.W.Fast.tw2250806591090146757 : Nat := 0
def PySem.W.Fast.tw2107342336314557015 : Nat := 0
def PySem.W.Fast.tw10323540113470423035 : Nat := 0
def PySem.W.Fast.tw18001074096406178879 : Nat := 0
def PySem.W.Fast.tw3291286569644599442 : Nat := 0
def PySem.W.Fast.tw2433379173125129807 : Nat := 0
def PySem.W.Fast.tw5214888849241677997 : Nat := 0
def PySem.W.Fast.tw7012399325988490170 : Nat := 0
def PySem.W.Fast.tw15830916576060428177 : Nat := 0
def PySem.W.Fast.tw17190154070697180871 : Nat := 0
def PySem.W.Fast.tw14582101210235996712 : Nat := 0
def PySem.W.Fast.tw16789414826288950192 : Nat := 0
def PySem.W.Fast.tw10238599652592079654 : Nat := 0
def PySem.W.Fast.tw1891707988813948709 : Nat := 0
def PySem.W.Fast.tw13919938939030018265 : Nat := 0
def PySem.W.Fast.tw1563142219060550596 : Nat := 0
def PySem.W.Fast.tw4615987190869377331 : Nat := 0
def PySem.W.Fast.tw5390692835723571258 : Nat := 0
def PySem.W.Fast.tw5098520690099612552 : Nat := 0
def PySem.W.Fast.tw12566895996197813609 : Nat := 0
def PySem.W.Fast.tw5373092453144312629 : Nat := 0
def PySem.W.Fast.tw403878247817808834 : Nat := 0
def PySem.W.Fast.tw14106884478847680918 : Nat := 0
def PySem.W.Fast.tw5195761907677333411 : Nat := 0
def PySem.W.Fast.tw13290980821998749731 : Nat := 0
def PySem.W.Fast.tw17317960332374687093 : Nat := 0
def PySem.W.Fast.tw17433897734443591328 : Nat := 0
def PySem.W.Fast.tw11300926627731163294 : Nat := 0
def PySem.W.Fast.tw594697025355450890 : Nat := 0
def PySem.W.Fast.tw1284068890204841260 : Nat := 0
def PySem.W.Fast.tw9043151866209518462 : Nat := 0
def PySem.W.Fast.tw12533691655964035296 : Nat := 0
def PySem.W.Fast.tw8322771273806992311 : Nat := 0
def PySem.W.Fast.tw4046643951161422907 : Nat := 0
def PySem.W.Fast.tw556336251813088335 : Nat := 0
def PySem.W.Fast.tw16324393719712028332 : Nat := 0
def PySem.W.Fast.tw12671457726877757415 : Nat := 0
def PySem.W.Fast.tw16430579778377445113 : Nat := 0
def PySem.W.Fast.tw10440328206171083049 : Nat := 0
def PySem.W.Fast.tw3443668239244588196 : Nat := 0
def PySem.W.Fast.tw14070510269898493765 : Nat := 0
def PySem.W.Fast.tw2827179165717895115 : Nat := 0
def PySem.W.Fast.tw8374944932670573648 : Nat := 0
def PySem.W.Fast.tw10529887878810641674 : Nat := 0
def PySem.W.Fast.tw4164025757540399262 : Nat := 0
def PySem.W.Fast.tw13753257133003206974 : Nat := 0
def PySem.W.Fast.tw8283667069292502772 : Nat := 0
def PySem.W.Fast.tw13755860572361867910 : Nat := 0
def PySem.W.Fast.tw9494317276027876220 : Nat := 0
def PySem.W.Fast.tw15696367003892875841 : Nat := 0
def PySem.W.Fast.tw12268900776920117897 : Nat := 0
def PySem.W.Fast.tw6865471834213731152 : Nat := 0
def PySem.W.Fast.tw8336798180937737022 : Nat := 0
def PySem.W.Fast.tw16140949984404122138 : Nat := 0
def PySem.W.Fast.tw17655431818523988641 : Nat := 0
def PySem.W.Fast.tw13019686121895295361 : Nat := 0
def PySem.W.Fast.tw5722176353570974577 : Nat := 0
def PySem.W.Fast.tw12522571433906720369 : Nat := 0
def PySem.W.Fast.tw14821882517160665511 : Nat := 0
def PySem.W.Fast.tw17315537251227244045 : Nat := 0
def PySem.W.Fast.tw10774860964226101624 : Nat := 0
def PySem.W.Fast.tw18290589950717228953 : Nat := 0
def PySem.W.Fast.tw12411515944455457120 : Nat := 0
def PySem.W.Fast.tw8590028019470178003 : Nat := 0
def PySem.W.Fast.tw8956632711507315289 : Nat := 0
def PySem.W.Fast.tw5258007421130896276 : Nat := 0
def PySem.W.Fast.tw4637587277203295418 : Nat := 0
def PySem.W.Fast.tw5379875796163674136 : Nat := 0
def PySem.W.Fast.tw6918430823920078221 : Nat := 0
def PySem.W.Fast.tw15785848998729301697 : Nat := 0
def PySem.W.Fast.tw1748930707898676915 : Nat := 0
def PySem.W.Fast.tw16997491633529149956 : Nat := 0
def PySem.W.Fast.tw4293471378143087424 : Nat := 0
def PySem.W.Fast.tw13617139455985245053 : Nat := 0
def PySem.W.Fast.tw7652405589311955772 : Nat := 0
def PySem.W.Fast.tw15589725308455646666 : Nat := 0
def PySem.W.Fast.tw3037779108148871867 : Nat := 0
def PySem.W.Fast.tw6422148511204098333 : Nat := 0
def PySem.W.Fast.tw17709533545227037365 : Nat := 0
def PySem.W.Fast.tw8298341111539577853 : Nat := 0
def PySem.W.Fast.tw196365786557986113 : Nat := 0
def PySem.W.Fast.tw7696121563967496883 : Nat := 0
def PySem.W.Fast.tw10908074709981130746 : Nat := 0
def PySem.W.Fast.tw5250583436371698984 : Nat := 0
def PySem.W.Fast.tw8262580126649973017 : Nat := 0
def PySem.W.Fast.tw13457489587577165488 : Nat := 0
def PySem.W.Fast.tw16516150286048794858 : Nat := 0
def PySem.W.Fast.tw581110679528413869 : Nat := 0
def PySem.W.Fast.tw16357799573411943500 : Nat := 0
def PySem.W.Fast.tw13874678397999869115 : Nat := 0
def PySem.W.Fast.tw2882168366033095061 : Nat := 0
def PySem.W.Fast.tw9885610053745208790 : Nat := 0
def PySem.W.Fast.tw7833538260391769722 : Nat := 0
def PySem.W.Fast.tw3296000783767692680 : Nat := 0
def PySem.W.Fast.tw4634193410175851115 : Nat := 0
def PySem.W.Fast.tw3458329323869711866 : Nat := 0
def PySem.W.Fast.tw12031562592763500832 : Nat := 0
def PySem.W.Fast.tw305962616917446693 : Nat := 0
def PySem.W.Fast.tw17238190169217373016 : Nat := 0
def PySem.W.Fast.tw17888175473710629908 : Nat := 0
def PySem.W.Fast.tw11558534188862911572 : Nat := 0
def PySem.W.Fast.tw4543442629044168960 : Nat := 0
def PySem.W.Fast.tw4154644928946094873 : Nat := 0
def PySem.W.Fast.tw7824584941792916907 : Nat := 0
def PySem.W.Fast.tw7557795455248191222 : Nat := 0
def PySem.W.Fast.tw10295614743506001930 : Nat := 0
def PySem.W.Fast.tw16095036953685269330 : Nat := 0
def PySem.W.Fast.tw6405169594171421843 : Nat := 0
def PySem.W.Fast.tw7083704956878222924 : Nat := 0
def PySem.W.Fast.tw3927214411335317435 : Nat := 0
def PySem.W.Fast.tw9961461239693660296 : Nat := 0
def PySem.W.Fast.tw1300972839156323259 : Nat := 0
def PySem.W.Fast.tw8923595914469925348 : Nat := 0
def PySem.W.Fast.tw70800177857943894 : Nat := 0
def PySem.W.Fast.tw14123746973714371412 : Nat := 0
def PySem.W.Fast.tw6159175581686740430 : Nat := 0
def PySem.W.Fast.tw18209569088965813488 : Nat := 0
def PySem.W.Fast.tw13251066599922936690 : Nat := 0
def PySem.W.Fast.tw11580416784763431383 : Nat := 0
def PySem.W.Fast.tw11905819877689478749 : Nat := 0
def PySem.W.Fast.tw663274364229788547 : Nat := 0
def PySem.W.Fast.tw16927989979665930498 : Nat := 0
def PySem.W.Fast.tw6543071323449905506 : Nat := 0
def PySem.W.Fast.tw9373953514124940934 : Nat := 0
def PySem.W.Fast.tw14434570498034238369 : Nat := 0
def PySem.W.Fast.tw332957041989747336 : Nat := 0
def PySem.W.Fast.tw7866861494328671056 : Nat := 0
def PySem.W.Fast.tw13133741047585170417 : Nat := 0
def PySem.W.Fast.tw3266784265236426172 : Nat := 0
def PySem.W.Fast.tw1974273135637885215 : Nat := 0
def PySem.W.Fast.tw12036196280752336853 : Nat := 0
def PySem.W.Fast.tw1966686587384415246 : Nat := 0
def PySem.W.Fast.tw12123443069872709986 : Nat := 0
def PySem.W.Fast.tw770011838945589513 : Nat := 0
def PySem.W.Fast.tw9521934573022946617 : Nat := 0
def PySem.W.Fast.tw1612202558690441339 : Nat := 0
def PySem.W.Fast.tw5638168361909839240 : Nat := 0
def PySem.W.Fast.tw14501093993115991431 : Nat := 0
def PySem.W.Fast.tw16647290136139177270 : Nat := 0
def PySem.W.Fast.tw8520911308005997341 : Nat := 0
def PySem.W.Fast.tw3610527885793232013 : Nat := 0
def PySem.W.Fast.tw5329027615398990100 : Nat := 0
def PySem.W.Fast.tw1525478720775221132 : Nat := 0
def PySem.W.Fast.tw5257769332088641180 : Nat := 0
def PySem.W.Fast.tw7578107832144832272 : Nat := 0
def PySem.W.Fast.tw1837222884194612260 : Nat := 0
def PySem.W.Fast.tw5572368853287149825 : Nat := 0
def PySem.W.Fast.tw14876104144792615050 : Nat := 0
def PySem.W.Fast.tw15583149983575442939 : Nat := 0
def PySem.W.Fast.tw1803452426452074590 : Nat := 0
def PySem.W.Fast.tw18303619965675442228 : Nat := 0
def PySem.W.Fast.tw9474499013265452174 : Nat := 0
def PySem.W.Fast.tw12255236139368255718 : Nat := 0
def PySem.W.Fast.tw8211947697636600007 : Nat := 0
def PySem.W.Fast.tw12024361917516262254 : Nat := 0
def PySem.W.Fast.tw11112546070851293203 : Nat := 0
def PySem.W.Fast.tw10966458115121276294 : Nat := 0
def PySem.W.Fast.tw8611278838498490309 : Nat := 0
def PySem.W.Fast.tw18062033691544147174 : Nat := 0
def PySem.W.Fast.tw6697827544656384377 : Nat := 0
def PySem.W.Fast.tw8211529632652956581 : Nat := 0
def PySem.W.Fast.tw10635632416169559648 : Nat := 0
def PySem.W.Fast.tw11781613702721026727 : Nat := 0
def PySem.W.Fast.tw3862375449800676093 : Nat := 0
def PySem.W.Fast.tw5887594740090513705 : Nat := 0
def PySem.W.Fast.tw8405650616198108115 : Nat := 0
def PySem.W.Fast.tw17419153251719024766 : Nat := 0
def PySem.W.Fast.tw43104236643457547 : Nat := 0
def PySem.W.Fast.tw12070493662808337940 : Nat := 0
def PySem.W.Fast.tw4780041459438297737 : Nat := 0
def PySem.W.Fast.tw7842969964379930479 : Nat := 0
def PySem.W.Fast.tw7758201533280581573 : Nat := 0
def PySem.W.Fast.tw14235073897874900045 : Nat := 0
def PySem.W.Fast.tw16285387565503863893 : Nat := 0
def PySem.W.Fast.tw9320582588282391925 : Nat := 0
def PySem.W.Fast.tw4291824620033433976 : Nat := 0
def PySem.W.Fast.tw6661259966219633492 : Nat := 0
def PySem.W.Fast.tw4756816919599113337 : Nat := 0
def PySem.W.Fast.tw1793235659989952511 : Nat := 0
def PySem.W.Fast.tw16033190315654898694 : Nat := 0
def PySem.W.Fast.tw16974729067711948743 : Nat := 0
def PySem.W.Fast.tw1724560890075167284 : Nat := 0
def PySem.W.Fast.tw13850478854477843735 : Nat := 0
def PySem.W.Fast.tw3582127455298817913 : Nat := 0
def PySem.W.Fast.tw17213242833870689312 : Nat := 0
def PySem.W.Fast.tw138206365975394795 : Nat := 0
def PySem.W.Fast.tw11956676862044890957 : Nat := 0
def PySem.W.Fast.tw13228514320730542314 : Nat := 0
def PySem.W.Fast.tw2652886446133442933 : Nat := 0
def PySem.W.Fast.tw4668289964345304072 : Nat := 0
def PySem.W.Fast.tw3016547407103116071 : Nat := 0
def PySem.W.Fast.tw724424686014470155 : Nat := 0
def PySem.W.Fast.tw17666574414430882363 : Nat := 0
def PySem.W.Fast.tw9099343932931934049 : Nat := 0
def PySem.W.Fast.tw9728469501673537377 : Nat := 0
def PySem.W.Fast.tw5800816134980533994 : Nat := 0
def PySem.W.Fast.tw10196501750031947686 : Nat := 0
def PySem.W.Fast.tw7719799158326750778 : Nat := 0
def PySem.W.Fast.tw7313700305284673521 : Nat := 0
def PySem.W.Fast.tw7159319236130807316 : Nat := 0
def PySem.W.Fast.tw6147380841825334154 : Nat := 0
def PySem.W.Fast.tw14586401985252290576 : Nat := 0
def PySem.W.Fast.tw15981197659140835850 : Nat := 0
def PySem.W.Fast.tw14256924359729023798 : Nat := 0
def PySem.W.Fast.tw1793036528673182982 : Nat := 0
def PySem.W.Fast.tw17308046599332047896 : Nat := 0
def PySem.W.Fast.tw12169263862442064625 : Nat := 0
def PySem.W.Fast.tw464058831660006696 : Nat := 0
def PySem.W.Fast.tw18157915261458164447 : Nat := 0
def PySem.W.Fast.tw4581045799777384248 : Nat := 0
def PySem.W.Fast.tw13791963142197897195 : Nat := 0
def PySem.W.Fast.tw3807991130236138092 : Nat := 0
def PySem.W.Fast.tw9509892633286550405 : Nat := 0
def PySem.W.Fast.tw5589786083288002576 : Nat := 0
def PySem.W.Fast.tw9067783629067591513 : Nat := 0
def PySem.W.Fast.tw2301246100508463246 : Nat := 0
def PySem.W.Fast.tw3702153733847170798 : Nat := 0
def PySem.W.Fast.tw6516940324465087943 : Nat := 0
def PySem.W.Fast.tw14859466455177310500 : Nat := 0
def PySem.W.Fast.tw7069023335266430160 : Nat := 0
def PySem.W.Fast.tw3070095226588213060 : Nat := 0
def PySem.W.Fast.tw16506481600929265534 : Nat := 0
def PySem.W.Fast.tw18242863607660495218 : Nat := 0
def PySem.W.Fast.tw130802124053454921 : Nat := 0
def PySem.W.Fast.tw9336475861770054524 : Nat := 0
def PySem.W.Fast.tw10659073353188083306 : Nat := 0
def PySem.W.Fast.tw7941802721717701464 : Nat := 0
def PySem.W.Fast.tw14785082903771419858 : Nat := 0
def PySem.W.Fast.tw5778048414977818355 : Nat := 0
def PySem.W.Fast.tw18349456640013531266 : Nat := 0
def PySem.W.Fast.tw1080529816324885852 : Nat := 0
def PySem.W.Fast.tw9575254019148297390 : Nat := 0
def PySem.W.Fast.tw8762635038430268581 : Nat := 0
def PySem.W.Fast.tw7870398802745876985 : Nat := 0
def PySem.W.Fast.tw3473538335687469229 : Nat := 0
def PySem.W.Fast.tw2218511970685411755 : Nat := 0
def PySem.W.Fast.tw5312139595025131929 : Nat := 0
def PySem.W.Fast.tw14667039136711748601 : Nat := 0
def PySem.W.Fast.tw14517284957395474908 : Nat := 0
def PySem.W.Fast.tw12934218765115815301 : Nat := 0
def PySem.W.Fast.tw13919051203629100741 : Nat := 0
def PySem.W.Fast.tw6272477651030652995 : Nat := 0
def PySem.W.Fast.tw13043759891896584325 : Nat := 0
def PySem.W.Fast.tw3197134544807824050 : Nat := 0
def PySem.W.Fast.tw5064227419375756201 : Nat := 0
def PySem.W.Fast.tw9278505482553388116 : Nat := 0
def PySem.W.Fast.tw11051878578992819581 : Nat := 0
def PySem.W.Fast.tw15686569016344735272 : Nat := 0
def PySem.W.Fast.tw7419481770714486683 : Nat := 0
def PySem.W.Fast.tw3459705223756160307 : Nat := 0
def PySem.W.Fast.tw4263607961768629781 : Nat := 0
def PySem.W.Fast.tw6088236335377464956 : Nat := 0
def PySem.W.Fast.tw15544891110090519319 : Nat := 0
def PySem.W.Fast.tw1802081434943671786 : Nat := 0
def PySem.W.Fast.tw5658063726957265608 : Nat := 0
def PySem.W.Fast.tw13329154548220650293 : Nat := 0
def PySem.W.Fast.tw15453502469488621354 : Nat := 0
def PySem.W.Fast.tw10561966772892323565 : Nat := 0
def PySem.W.Fast.tw11777435360131735486 : Nat := 0
def PySem.W.Fast.tw14533719977613620213 : Nat := 0
def PySem.W.Fast.tw10827587922182282725 : Nat := 0
def PySem.W.Fast.tw8988707907165633978 : Nat := 0
def PySem.W.Fast.tw11024282371500580081 : Nat := 0
def PySem.W.Fast.tw6206313488139413172 : Nat := 0
def PySem.W.Fast.tw2500537881993682361 : Nat := 0
def PySem.W.Fast.tw18001617751068461483 : Nat := 0
def PySem.W.Fast.tw2249041155712046392 : Nat := 0
def PySem.W.Fast.tw10119308569851886700 : Nat := 0
def PySem.W.Fast.tw1959110120872987035 : Nat := 0
def PySem.W.Fast.tw9909274951128212098 : Nat := 0
def PySem.W.Fast.tw11916173707106587941 : Nat := 0
def PySem.W.Fast.tw12349882625028532539 : Nat := 0
def PySem.W.Fast.tw4552028045647335437 : Nat := 0
def PySem.W.Fast.tw10870281058272761060 : Nat := 0
def PySem.W.Fast.tw7288344632959780228 : Nat := 0
def PySem.W.Fast.tw2501664366838635226 : Nat := 0
def PySem.W.Fast.tw14134846718466922575 : Nat := 0
def PySem.W.Fast.tw4337088503335101969 : Nat := 0
def PySem.W.Fast.tw6284053158934032351 : Nat := 0
def PySem.W.Fast.tw12616573588936964929 : Nat := 0
def PySem.W.Fast.tw8315734783981009012 : Nat := 0
def PySem.W.Fast.tw11200785074104993431 : Nat := 0
def PySem.W.Fast.tw6599238223855187677 : Nat := 0
def PySem.W.Fast.tw5611129481788232416 : Nat := 0
def PySem.W.Fast.tw7284466019901155103 : Nat := 0
def PySem.W.Fast.tw4080071244602257346 : Nat := 0
def PySem.W.Fast.tw18233223006109489716 : Nat := 0
def PySem.W.Fast.tw879909547415780369 : Nat := 0
def PySem.W.Fast.tw8522420785550529107 : Nat := 0
def PySem.W.Fast.tw8395661650138427778 : Nat := 0
def PySem.W.Fast.tw1474349948051402007 : Nat := 0
def PySem.W.Fast.tw11166043649395057279 : Nat := 0
def PySem.W.Fast.tw10429006410884528880 : Nat := 0
def PySem.W.Fast.tw5398842297550647789 : Nat := 0
def PySem.W.Fast.tw12685015179375536414 : Nat := 0
def PySem.W.Fast.tw4931105371474978153 : Nat := 0
def PySem.W.Fast.tw14779438608232284268 : Nat := 0
def PySem.W.Fast.tw14045265379586262881 : Nat := 0
def PySem.W.Fast.tw1203646065313116356 : Nat := 0
def PySem.W.Fast.tw7663647890864171467 : Nat := 0
def PySem.W.Fast.tw13758367334471707137 : Nat := 0
def PySem.W.Fast.tw2497536829641625238 : Nat := 0
def PySem.W.Fast.tw14823271749851180099 : Nat := 0
def PySem.W.Fast.tw6343984220494154280 : Nat := 0
def PySem.W.Fast.tw12874418138857412977 : Nat := 0
def PySem.W.Fast.tw11327432661087494752 : Nat := 0
def PySem.W.Fast.tw9873960866301722794 : Nat := 0
def PySem.W.Fast.tw173250434537954936 : Nat := 0
def PySem.W.Fast.tw15032499789071275002 : Nat := 0
def PySem.W.Fast.tw7760540162519994495 : Nat := 0
def PySem.W.Fast.tw13279167871616043212 : Nat := 0
def PySem.W.Fast.tw17287739356982226618 : Nat := 0
def PySem.W.Fast.tw5012754029347154874 : Nat := 0
def PySem.W.Fast.tw8807174242471835451 : Nat := 0
def PySem.W.Fast.tw12489402213406551843 : Nat := 0
def PySem.W.Fast.tw9922478009643456106 : Nat := 0
def PySem.W.Fast.tw12170633359354343103 : Nat := 0
def PySem.W.Fast.tw17933151115773845681 : Nat := 0
def PySem.W.Fast.tw12515793582450140921 : Nat := 0
def PySem.W.Fast.tw16106394479458387632 : Nat := 0
def PySem.W.Fast.tw2809418416503242226 : Nat := 0
def PySem.W.Fast.tw2531936411558236753 : Nat := 0
def PySem.W.Fast.tw17944879764356939354 : Nat := 0
def PySem.W.Fast.tw5614089881569141595 : Nat := 0
def PySem.W.Fast.tw13470267133432405483 : Nat := 0
def PySem.W.Fast.tw12596649254266433851 : Nat := 0
def PySem.W.Fast.tw38235006448865204 : Nat := 0
def PySem.W.Fast.tw11042447978660092230 : Nat := 0
def PySem.W.Fast.tw13758039016062117768 : Nat := 0
def PySem.W.Fast.tw2391816718820893080 : Nat := 0
def PySem.W.Fast.tw1219503873679830782 : Nat := 0
def PySem.W.Fast.tw11990447397349381236 : Nat := 0
def PySem.W.Fast.tw1343948011016381546 : Nat := 0
def PySem.W.Fast.tw257644361765978010 : Nat := 0
def PySem.W.Fast.tw8009760355484460085 : Nat := 0
def PySem.W.Fast.tw13323025627036452991 : Nat := 0
def PySem.W.Fast.tw17919736080764069053 : Nat := 0
def PySem.W.Fast.tw12429293730538693618 : Nat := 0
def PySem.W.Fast.tw16066630937126024936 : Nat := 0
def PySem.W.Fast.tw15210757546496386496 : Nat := 0
def PySem.W.Fast.tw9902822362569096621 : Nat := 0
def PySem.W.Fast.tw2379855222576436803 : Nat := 0
def PySem.W.Fast.tw2112028667351495791 : Nat := 0
def PySem.W.Fast.tw13091757577827882733 : Nat := 0
def PySem.W.Fast.tw10047636165976906778 : Nat := 0
def PySem.W.Fast.tw15901613654667100548 : Nat := 0
def PySem.W.Fast.tw3855007685078752038 : Nat := 0
def PySem.W.Fast.tw8277321637214571670 : Nat := 0
def PySem.W.Fast.tw2236702092429035015 : Nat := 0
def PySem.W.Fast.tw3123660969394637078 : Nat := 0
def PySem.W.Fast.tw7626254339994191471 : Nat := 0
def PySem.W.Fast.tw3197139423479965091 : Nat := 0
def PySem.W.Fast.tw16254339231558996082 : Nat := 0
def PySem.W.Fast.tw17399922594011013456 : Nat := 0
def PySem.W.Fast.tw13261352068115981171 : Nat := 0
def PySem.W.Fast.tw7865452513313265006 : Nat := 0
def PySem.W.Fast.tw5207265517791237124 : Nat := 0
def PySem.W.Fast.tw6881984337395625510 : Nat := 0
def PySem.W.Fast.tw5389164924504906446 : Nat := 0
def PySem.W.Fast.tw8361415633179758688 : Nat := 0
def PySem.W.Fast.tw16354165677193694471 : Nat := 0
def PySem.W.Fast.tw16265804438984791427 : Nat := 0
def PySem.W.Fast.tw12347530236003504129 : Nat := 0
def PySem.W.Fast.tw11014024333701592552 : Nat := 0
def PySem.W.Fast.tw15791357811652503370 : Nat := 0
def PySem.W.Fast.tw7682254370160498346 : Nat := 0
def PySem.W.Fast.tw17214577668543146942 : Nat := 0
def PySem.W.Fast.tw9536375803609012152 : Nat := 0
def PySem.W.Fast.tw13315860096681353801 : Nat := 0
def PySem.W.Fast.tw14684335925909249557 : Nat := 0
def PySem.W.Fast.tw6858822828555791183 : Nat := 0
def PySem.W.Fast.tw7358119513389725858 : Nat := 0
def PySem.W.Fast.tw16114331619300892588 : Nat := 0
def PySem.W.Fast.tw12984899965297946300 : Nat := 0
def PySem.W.Fast.tw5564398575580240780 : Nat := 0
def PySem.W.Fast.tw15673840985433936064 : Nat := 0
def PySem.W.Fast.tw16436729974936950106 : Nat := 0
def PySem.W.Fast.tw8184372037869768856 : Nat := 0
def PySem.W.Fast.tw2487472882274529009 : Nat := 0
def PySem.W.Fast.tw13415079247512661596 : Nat := 0
def PySem.W.Fast.tw10434779473931615284 : Nat := 0
def PySem.W.Fast.tw9046546207465456513 : Nat := 0
def PySem.W.Fast.tw1778200898603403440 : Nat := 0
def PySem.W.Fast.tw7030163035043284645 : Nat := 0
def PySem.W.Fast.tw17621683952155772906 : Nat := 0
def PySem.W.Fast.tw9259006605232342551 : Nat := 0
def PySem.W.Fast.tw11582980698591947124 : Nat := 0
def PySem.W.Fast.tw1148115411647487073 : Nat := 0
def PySem.W.Fast.tw1906221708484230175 : Nat := 0
def PySem.W.Fast.tw3130513178204791287 : Nat := 0
def PySem.W.Fast.tw3022150182132803869 : Nat := 0
def PySem.W.Fast.tw12238285052148863487 : Nat := 0
def PySem.W.Fast.tw15222667354667611901 : Nat := 0
def PySem.W.Fast.tw17908100408013835445 : Nat := 0
def PySem.W.Fast.tw16249362156274750946 : Nat := 0
def PySem.W.Fast.tw16857501814315228185 : Nat := 0
def PySem.W.Fast.tw898287086467783551 : Nat := 0
def PySem.W.Fast.tw11104172826931462750 : Nat := 0
def PySem.W.Fast.tw12999726179726346427 : Nat := 0
def PySem.W.Fast.tw12199935758688164863 : Nat := 0
def PySem.W.Fast.tw13048355294127333290 : Nat := 0
def PySem.W.Fast.tw8426562672876255573 : Nat := 0
def PySem.W.Fast.tw11314870121159720892 : Nat := 0
def PySem.W.Fast.tw10404701705974526864 : Nat := 0
def PySem.W.Fast.tw3351134509827093724 : Nat := 0
def PySem.W.Fast.tw1006757993383903932 : Nat := 0
def PySem.W.Fast.tw9012405508293009134 : Nat := 0
def PySem.W.Fast.tw6131449244289060410 : Nat := 0
def PySem.W.Fast.tw17288344710045886572 : Nat := 0
def PySem.W.Fast.tw7590441647433037208 : Nat := 0
def PySem.W.Fast.tw10947228945200887545 : Nat := 0
def PySem.W.Fast.tw16254984633375193321 : Nat := 0
def PySem.W.Fast.tw15180636409052567998 : Nat := 0
def PySem.W.Fast.tw5071657431636396820 : Nat := 0
def PySem.W.Fast.tw11181501394052867251 : Nat := 0
def PySem.W.Fast.tw9921079088274458945 : Nat := 0
def PySem.W.Fast.tw12981863482512480927 : Nat := 0
def PySem.W.Fast.tw18184098197608314313 : Nat := 0
def PySem.W.Fast.tw7527397658671205483 : Nat := 0
def PySem.W.Fast.tw1397573113220057380 : Nat := 0
def PySem.W.Fast.tw12441098014854735153 : Nat := 0
def PySem.W.Fast.tw9886192870813113438 : Nat := 0
def PySem.W.Fast.tw985146029749203658 : Nat := 0
def PySem.W.Fast.tw2409213597040273047 : Nat := 0
def PySem.W.Fast.tw6982968139884116645 : Nat := 0
def PySem.W.Fast.tw6276497428531372512 : Nat := 0
def PySem.W.Fast.tw10011135166340125021 : Nat := 0
def PySem.W.Fast.tw3206266604983148781 : Nat := 0
def PySem.W.Fast.tw8957651543843290960 : Nat := 0
def PySem.W.Fast.tw14419115435730868689 : Nat := 0
def PySem.W.Fast.tw4142872159491104542 : Nat := 0
def PySem.W.Fast.tw3264677948179407047 : Nat := 0
def PySem.W.Fast.tw5699928745364755190 : Nat := 0
def PySem.W.Fast.tw16395164208300671206 : Nat := 0
def PySem.W.Fast.tw7413631202871668193 : Nat := 0
def PySem.W.Fast.tw9628754765305372271 : Nat := 0
def PySem.W.Fast.tw1813413277097609251 : Nat := 0
def PySem.W.Fast.tw6365731169564956501 : Nat := 0
def PySem.W.Fast.tw14740347345935825986 : Nat := 0
def PySem.W.Fast.tw1453848362110130823 : Nat := 0
def PySem.W.Fast.tw18249485495994324073 : Nat := 0
def PySem.W.Fast.tw5728850504202041634 : Nat := 0
def PySem.W.Fast.tw13601080998045299689 : Nat := 0
def PySem.W.Fast.tw17628487676382805115 : Nat := 0
def PySem.W.Fast.tw9825826996496428302 : Nat := 0
def PySem.W.Fast.tw16159692138153403684 : Nat := 0
def PySem.W.Fast.tw11928734130913971225 : Nat := 0
def PySem.W.Fast.tw7793336390540090848 : Nat := 0
def PySem.W.Fast.tw4935255918846906451 : Nat := 0
def PySem.W.Fast.tw777778908812961292 : Nat := 0
def PySem.W.Fast.tw12275132744688527802 : Nat := 0
def PySem.W.Fast.tw18276030848511476456 : Nat := 0
def PySem.W.Fast.tw12847064579357994133 : Nat := 0
def PySem.W.Fast.tw13006871983552871959 : Nat := 0
def PySem.W.Fast.tw6604416965187966718 : Nat := 0
def PySem.W.Fast.tw16928739387787699782 : Nat := 0
def PySem.W.Fast.tw3684333534267487446 : Nat := 0
def PySem.W.Fast.tw10003078851203044162 : Nat := 0
def PySem.W.Fast.tw9597248208750955510 : Nat := 0
def PySem.W.Fast.tw1862785623647513408 : Nat := 0
def PySem.W.Fast.tw13438985716749404610 : Nat := 0
def PySem.W.Fast.tw13367486328141772378 : Nat := 0
def PySem.W.Fast.tw2454874950692330173 : Nat := 0
def PySem.W.Fast.tw3882961261057388641 : Nat := 0
def PySem.W.Fast.tw5414851355611002715 : Nat := 0
def PySem.W.Fast.tw17373659397306156154 : Nat := 0
def PySem.W.Fast.tw5713335924810457831 : Nat := 0
def PySem.W.Fast.tw7547754474579034724 : Nat := 0
def PySem.W.Fast.tw3199890965813232570 : Nat := 0
def PySem.W.Fast.tw10316807865346151749 : Nat := 0
def PySem.W.Fast.tw6368746179564223574 : Nat := 0
def PySem.W.Fast.tw5546660305238188319 : Nat := 0
def PySem.W.Fast.tw8825271657622659106 : Nat := 0
def PySem.W.Fast.tw12974604330010499119 : Nat := 0
def PySem.W.Fast.tw9154457175068102402 : Nat := 0
def PySem.W.Fast.tw10157599422981606327 : Nat := 0
def PySem.W.Fast.tw3031203832283449739 : Nat := 0
def PySem.W.Fast.tw16618857337839729584 : Nat := 0
def PySem.W.Fast.tw18106773503033842951 : Nat := 0
def PySem.W.Fast.tw5731615370863745231 : Nat := 0
def PySem.W.Fast.tw1339509193120285819 : Nat := 0
def PySem.W.Fast.tw2132109973445723006 : Nat := 0
def PySem.W.Fast.tw10207850034355464745 : Nat := 0
def PySem.W.Fast.tw10125386292749332440 : Nat := 0
def PySem.W.Fast.tw12475539265269527135 : Nat := 0
def PySem.W.Fast.tw3563435328874306514 : Nat := 0
def PySem.W.Fast.tw16438985238990567346 : Nat := 0
def PySem.W.Fast.tw7359080697723069662 : Nat := 0
def PySem.W.Fast.tw481064020874337845 : Nat := 0
def PySem.W.Fast.tw7344554812359612150 : Nat := 0
def PySem.W.Fast.tw14891400812117881792 : Nat := 0
def PySem.W.Fast.tw16028859189229232910 : Nat := 0
def PySem.W.Fast.tw2095906270115622837 : Nat := 0
def PySem.W.Fast.tw6930648241132890575 : Nat := 0
def PySem.W.Fast.tw16334955130850145004 : Nat := 0
def PySem.W.Fast.tw4081429772934611984 : Nat := 0
def PySem.W.Fast.tw16414315609171399323 : Nat := 0
def PySem.W.Fast.tw17423059209535252713 : Nat := 0
def PySem.W.Fast.tw7590176989519334671 : Nat := 0
def PySem.W.Fast.tw10534239433127897978 : Nat := 0
def PySem.W.Fast.tw13285608887475059233 : Nat := 0
def PySem.W.Fast.tw10244972058240805297 : Nat := 0
def PySem.W.Fast.tw5782392440896990026 : Nat := 0
def PySem.W.Fast.tw11433702711806603182 : Nat := 0
def PySem.W.Fast.tw2659584400615654335 : Nat := 0
def PySem.W.Fast.tw3718254621338549589 : Nat := 0
def PySem.W.Fast.tw11088225042132075794 : Nat := 0
def PySem.W.Fast.tw7552275565580193493 : Nat := 0
def PySem.W.Fast.tw8572925258212811753 : Nat := 0
def PySem.W.Fast.tw2670589140253721035 : Nat := 0
def PySem.W.Fast.tw1365326128814539810 : Nat := 0
def PySem.W.Fast.tw5921220594132447457 : Nat := 0
def PySem.W.Fast.tw8456174032769305171 : Nat := 0
def PySem.W.Fast.tw8507350206936277304 : Nat := 0
def PySem.W.Fast.tw9531787883618359170 : Nat := 0
def PySem.W.Fast.tw1492386350774925848 : Nat := 0
def PySem.W.Fast.tw16875613426750013177 : Nat := 0
def PySem.W.Fast.tw4990367578719021634 : Nat := 0
def PySem.W.Fast.tw8561032029277367096 : Nat := 0
def PySem.W.Fast.tw2481425987068835872 : Nat := 0
def PySem.W.Fast.tw16709616148521335879 : Nat := 0
def PySem.W.Fast.tw8471263445788875502 : Nat := 0
def PySem.W.Fast.tw16002121659475994586 : Nat := 0
def PySem.W.Fast.tw13498215957767043250 : Nat := 0
def PySem.W.Fast.tw2391534630214577165 : Nat := 0
def PySem.W.Fast.tw5112777403170851666 : Nat := 0
def PySem.W.Fast.tw17823425795795928331 : Nat := 0
def PySem.W.Fast.tw17380618309184296162 : Nat := 0
def PySem.W.Fast.tw13438201571854234055 : Nat := 0
def PySem.W.Fast.tw16032621673925074768 : Nat := 0
def PySem.W.Fast.tw16279714009103160315 : Nat := 0
def PySem.W.Fast.tw2658523344934675713 : Nat := 0
def PySem.W.Fast.tw6328714114817950491 : Nat := 0
def PySem.W.Fast.tw2694210129569314816 : Nat := 0
def PySem.W.Fast.tw5628815029014946066 : Nat := 0
def PySem.W.Fast.tw14305202451163290398 : Nat := 0
def PySem.W.Fast.tw7735891659812695728 : Nat := 0
def PySem.W.Fast.tw16068892104007049767 : Nat := 0
def PySem.W.Fast.tw4175471474914623117 : Nat := 0
def PySem.W.Fast.tw15337860766274167727 : Nat := 0
def PySem.W.Fast.tw3860425808870993074 : Nat := 0
def PySem.W.Fast.tw17780971100418180494 : Nat := 0
def PySem.W.Fast.tw7667220024322502777 : Nat := 0
def PySem.W.Fast.tw8175681177326975110 : Nat := 0
def PySem.W.Fast.tw12745650321942486536 : Nat := 0
def PySem.W.Fast.tw2312415993597561237 : Nat := 0
def PySem.W.Fast.tw11507054626921700437 : Nat := 0
def PySem.W.Fast.tw3253238468244415042 : Nat := 0
def PySem.W.Fast.tw17962517099842352843 : Nat := 0
def PySem.W.Fast.tw8084420898202244405 : Nat := 0
def PySem.W.Fast.tw2784032668690359027 : Nat := 0
def PySem.W.Fast.tw17481630308982035200 : Nat := 0
def PySem.W.Fast.tw528433089430769109 : Nat := 0
def PySem.W.Fast.tw14499703847800997050 : Nat := 0
def PySem.W.Fast.tw1183105186206046363 : Nat := 0
def PySem.W.Fast.tw100066910178191182 : Nat := 0
def PySem.W.Fast.tw17927527438086943434 : Nat := 0
def PySem.W.Fast.tw5484208011248080910 : Nat := 0
def PySem.W.Fast.tw18385706020231609306 : Nat := 0
def PySem.W.Fast.tw11018229857364850945 : Nat := 0
def PySem.W.Fast.tw13547676948279574711 : Nat := 0
def PySem.W.Fast.tw4675663105551657800 : Nat := 0
def PySem.W.Fast.tw36207072439395208 : Nat := 0
def PySem.W.Fast.tw11180072149763129461 : Nat := 0
def PySem.W.Fast.tw14006518106431265745 : Nat := 0
def PySem.W.Fast.tw17934301582460512358 : Nat := 0
def PySem.W.Fast.tw13697391409413729538 : Nat := 0
def PySem.W.Fast.tw12368378018198080823 : Nat := 0
def PySem.W.Fast.tw4845606884633172543 : Nat := 0
def PySem.W.Fast.tw550262013725038264 : Nat := 0
def PySem.W.Fast.tw9754017970025643757 : Nat := 0
def PySem.W.Fast.tw16853497279977780229 : Nat := 0
def PySem.W.Fast.tw14221619394510900970 : Nat := 0
def PySem.W.Fast.tw2679436681414149865 : Nat := 0
def PySem.W.Fast.tw6393962113316523656 : Nat := 0
def PySem.W.Fast.tw13454081387760334568 : Nat := 0
def PySem.W.Fast.tw827623078943104396 : Nat := 0
def PySem.W.Fast.tw11644328944194419581 : Nat := 0
def PySem.W.Fast.tw12762174623106447908 : Nat := 0
def PySem.W.Fast.tw14025472871430164452 : Nat := 0
def PySem.W.Fast.tw5343737746057039473 : Nat := 0
def PySem.W.Fast.tw5711055636140458097 : Nat := 0
def PySem.W.Fast.tw13279927390463455009 : Nat := 0
def PySem.W.Fast.tw1458344918095980342 : Nat := 0
def PySem.W.Fast.tw15107965963017605422 : Nat := 0
def PySem.W.Fast.tw15967099793424656125 : Nat := 0
def PySem.W.Fast.tw17674095572510879464 : Nat := 0
def PySem.W.Fast.tw6785882472306580178 : Nat := 0
def PySem.W.Fast.tw11428690887012726010 : Nat := 0
def PySem.W.Fast.tw11977893003143611631 : Nat := 0
def PySem.W.Fast.tw10052269848443858240 : Nat := 0
def PySem.W.Fast.tw16404590379440613505 : Nat := 0
def PySem.W.Fast.tw18440881270392120304 : Nat := 0
def PySem.W.Fast.tw16923353787310944424 : Nat := 0
def PySem.W.Fast.tw16151031204276527113 : Nat := 0
def PySem.W.Fast.tw6980385443736356512 : Nat := 0
def PySem.W.Fast.tw16497115539105306780 : Nat := 0
def PySem.W.Fast.tw15522826740409408766 : Nat := 0
def PySem.W.Fast.tw10313671298059345971 : Nat := 0
def PySem.W.Fast.tw14526811228110053243 : Nat := 0
def PySem.W.Fast.tw3907034148291933549 : Nat := 0
def PySem.W.Fast.tw4330166372347609874 : Nat := 0
def PySem.W.Fast.tw8434634691163314212 : Nat := 0
def PySem.W.Fast.tw5867964904256517340 : Nat := 0
def PySem.W.Fast.tw17410914960039626982 : Nat := 0
def PySem.W.Fast.tw3436543459450286413 : Nat := 0
def PySem.W.Fast.tw2125985360482324839 : Nat := 0
def PySem.W.Fast.tw17943448563741796193 : Nat := 0
def PySem.W.Fast.tw7272685560593817277 : Nat := 0
def PySem.W.Fast.tw8522588965217887931 : Nat := 0
def PySem.W.Fast.tw16375524620491597146 : Nat := 0
def PySem.W.Fast.tw8058697914675070446 : Nat := 0
def PySem.W.Fast.tw11389851900451323628 : Nat := 0
def PySem.W.Fast.tw722396223949904358 : Nat := 0
def PySem.W.Fast.tw3708305619816931687 : Nat := 0
def PySem.W.Fast.tw10407110981240818413 : Nat := 0
def PySem.W.Fast.tw7965040826407873904 : Nat := 0
def PySem.W.Fast.tw13156961334442705178 : Nat := 0
def PySem.W.Fast.tw15856436280221413051 : Nat := 0
def PySem.W.Fast.tw4948449171171129689 : Nat := 0
def PySem.W.Fast.tw3671098132725543375 : Nat := 0
def PySem.W.Fast.tw6897842253939531942 : Nat := 0
def PySem.W.Fast.tw10719863373821261649 : Nat := 0
def PySem.W.Fast.tw12984605250928561961 : Nat := 0
def PySem.W.Fast.tw18148219209537153388 : Nat := 0
def PySem.W.Fast.tw2914529664900797215 : Nat := 0
def PySem.W.Fast.tw7739543118353425483 : Nat := 0
def PySem.W.Fast.tw2680148998226198832 : Nat := 0
def PySem.W.Fast.tw14124977305030068274 : Nat := 0
def PySem.W.Fast.tw16874548383649745700 : Nat := 0
def PySem.W.Fast.tw13911022287756128610 : Nat := 0
def PySem.W.Fast.tw16401034830701657297 : Nat := 0
def PySem.W.Fast.tw17474692379103885032 : Nat := 0
def PySem.W.Fast.tw1307239268373359824 : Nat := 0
def PySem.W.Fast.tw6169617611113953042 : Nat := 0
def PySem.W.Fast.tw14625705851440631483 : Nat := 0
def PySem.W.Fast.tw775379802112420184 : Nat := 0
def PySem.W.Fast.tw8735573288515123801 : Nat := 0
def PySem.W.Fast.tw14618476534923193576 : Nat := 0
def PySem.W.Fast.tw1379225896587508699 : Nat := 0
def PySem.W.Fast.tw5906836408851261351 : Nat := 0
def PySem.W.Fast.tw886649245574780471 : Nat := 0
def PySem.W.Fast.tw17287326645130068730 : Nat := 0
def PySem.W.Fast.tw13429238884678576817 : Nat := 0
def PySem.W.Fast.tw6897495812242457410 : Nat := 0
def PySem.W.Fast.tw16738744339005665755 : Nat := 0
def PySem.W.Fast.tw17765255451466275956 : Nat := 0
def PySem.W.Fast.tw8049429963273857041 : Nat := 0
def PySem.W.Fast.tw11770036383511074829 : Nat := 0
def PySem.W.Fast.tw9865767088702181667 : Nat := 0
def PySem.W.Fast.tw5980509517355786593 : Nat := 0
def PySem.W.Fast.tw9478742249898063362 : Nat := 0
def PySem.W.Fast.tw9875043292827382688 : Nat := 0
def PySem.W.Fast.tw15984475577953560673 : Nat := 0
def PySem.W.Fast.tw6054095929125104705 : Nat := 0
def PySem.W.Fast.tw17410463149469475746 : Nat := 0
def PySem.W.Fast.tw8580967105430801889 : Nat := 0
def PySem.W.Fast.tw10741851480591126350 : Nat := 0
def PySem.W.Fast.tw16369173613186456635 : Nat := 0
def PySem.W.Fast.tw14591140811661971895 : Nat := 0
def PySem.W.Fast.tw7139569002962484769 : Nat := 0
def PySem.W.Fast.tw11315255172081249705 : Nat := 0
def PySem.W.Fast.tw7330989414003768623 : Nat := 0
def PySem.W.Fast.tw15234479755003257359 : Nat := 0
def PySem.W.Fast.tw12953951396492493631 : Nat := 0
def PySem.W.Fast.tw7318496152832432116 : Nat := 0
def PySem.W.Fast.tw6236958315675210638 : Nat := 0
def PySem.W.Fast.tw15131380447756500956 : Nat := 0
def PySem.W.Fast.tw2574052090102707468 : Nat := 0
def PySem.W.Fast.tw3020165574697701962 : Nat := 0
def PySem.W.Fast.tw5122787317024155283 : Nat := 0
def PySem.W.Fast.tw17390198565701259605 : Nat := 0
def PySem.W.Fast.tw6779187606348395261 : Nat := 0
def PySem.W.Fast.tw7485782698662938915 : Nat := 0
def PySem.W.Fast.tw16571918140525273016 : Nat := 0
def PySem.W.Fast.tw14885362330232268890 : Nat := 0
def PySem.W.Fast.tw13706395354142969426 : Nat := 0
def PySem.W.Fast.tw10339754025430398595 : Nat := 0
def PySem.W.Fast.tw887110543711310132 : Nat := 0
def PySem.W.Fast.tw4411315648357602445 : Nat := 0
def PySem.W.Fast.tw12376590373114389187 : Nat := 0
def PySem.W.Fast.tw18295762616419634951 : Nat := 0
def PySem.W.Fast.tw15363796908668477408 : Nat := 0
def PySem.W.Fast.tw10491835532729047897 : Nat := 0
def PySem.W.Fast.tw15456060029212716806 : Nat := 0
def PySem.W.Fast.tw13307869609608070849 : Nat := 0
def PySem.W.Fast.tw5674283157305715623 : Nat := 0
def PySem.W.Fast.tw13282502432639626884 : Nat := 0
def PySem.W.Fast.tw8314546127840951095 : Nat := 0
def PySem.W.Fast.tw6201410907056361576 : Nat := 0
def PySem.W.Fast.tw15749103962064312539 : Nat := 0
def PySem.W.Fast.tw13711741420210109895 : Nat := 0
def PySem.W.Fast.tw13539008315925030746 : Nat := 0
def PySem.W.Fast.tw7308904603640064432 : Nat := 0
def PySem.W.Fast.tw13001184798376622019 : Nat := 0
def PySem.W.Fast.tw1665163936384166862 : Nat := 0
def PySem.W.Fast.tw8221619563433614350 : Nat := 0
def PySem.W.Fast.tw7260956154045506932 : Nat := 0
def PySem.W.Fast.tw4450020296874159182 : Nat := 0
def PySem.W.Fast.tw15420396671575371946 : Nat := 0
def PySem.W.Fast.tw14458078598022916476 : Nat := 0
def PySem.W.Fast.tw17638459010329684496 : Nat := 0
def PySem.W.Fast.tw3438472869000564879 : Nat := 0
def PySem.W.Fast.tw968761622698988458 : Nat := 0
def PySem.W.Fast.tw5872480926941088241 : Nat := 0
def PySem.W.Fast.tw7007042856705824501 : Nat := 0
def PySem.W.Fast.tw2878376315935235841 : Nat := 0
def PySem.W.Fast.tw8172237241910182553 : Nat := 0
def PySem.W.Fast.tw1139267978925498982 : Nat := 0
def PySem.W.Fast.tw624525867245553167 : Nat := 0
def PySem.W.Fast.tw14585327446526616312 : Nat := 0
def PySem.W.Fast.tw14702149141124656138 : Nat := 0
def PySem.W.Fast.tw8419252019535241214 : Nat := 0
def PySem.W.Fast.tw1147680757206555221 : Nat := 0
def PySem.W.Fast.tw15342678066021026897 : Nat := 0
def PySem.W.Fast.tw8464922061979852679 : Nat := 0
def PySem.W.Fast.tw16246974705151452956 : Nat := 0
def PySem.W.Fast.tw17351049703863566065 : Nat := 0
def PySem.W.Fast.tw1621979756573996509 : Nat := 0
def PySem.W.Fast.tw14409643562221034541 : Nat := 0
def PySem.W.Fast.tw13254974830977587358 : Nat := 0
def PySem.W.Fast.tw9248305732105783910 : Nat := 0
def PySem.W.Fast.tw5798735174415659754 : Nat := 0
def PySem.W.Fast.tw8813220702723687224 : Nat := 0
def PySem.W.Fast.tw11561603113923807064 : Nat := 0
def PySem.W.Fast.tw10777959190852042424 : Nat := 0
def PySem.W.Fast.tw12705518912552224439 : Nat := 0
def PySem.W.Fast.tw18176911822596088164 : Nat := 0
def PySem.W.Fast.tw6518966223416084182 : Nat := 0
def PySem.W.Fast.tw12201909961960647542 : Nat := 0
def PySem.W.Fast.tw744085998820228296 : Nat := 0
def PySem.W.Fast.tw14690712160719039160 : Nat := 0
def PySem.W.Fast.tw13976026029832330715 : Nat := 0
def PySem.W.Fast.tw10772325987292557455 : Nat := 0
def PySem.W.Fast.tw17791767728347547938 : Nat := 0
def PySem.W.Fast.tw13197287754362009121 : Nat := 0
def PySem.W.Fast.tw15644431805929445566 : Nat := 0
def PySem.W.Fast.tw16616163580397141618 : Nat := 0
def PySem.W.Fast.tw5196102614497836426 : Nat := 0
def PySem.W.Fast.tw9941344036738641761 : Nat := 0
def PySem.W.Fast.tw17015509763768935587 : Nat := 0
def PySem.W.Fast.tw1226041318801966959 : Nat := 0
def PySem.W.Fast.tw8195989508297273371 : Nat := 0
def PySem.W.Fast.tw9815094635117467086 : Nat := 0
def PySem.W.Fast.tw12389687352498452536 : Nat := 0
def PySem.W.Fast.tw9287047816718840482 : Nat := 0
def PySem.W.Fast.tw17308876266801089149 : Nat := 0
def PySem.W.Fast.tw18272615718190333420 : Nat := 0
def PySem.W.Fast.tw2666619975938023443 : Nat := 0
def PySem.W.Fast.tw7596013787834870589 : Nat := 0
def PySem.W.Fast.tw10990649803236264482 : Nat := 0
def PySem.W.Fast.tw6772880412236333636 : Nat := 0
def PySem.W.Fast.tw13621375816065754300 : Nat := 0
def PySem.W.Fast.tw3198385979281562501 : Nat := 0
def PySem.W.Fast.tw7535532041385295354 : Nat := 0
def PySem.W.Fast.tw12395910409227143546 : Nat := 0
def PySem.W.Fast.tw11862502373348016934 : Nat := 0
def PySem.W.Fast.tw745940491856212990 : Nat := 0
def PySem.W.Fast.tw784876752686406823 : Nat := 0
def PySem.W.Fast.tw11921930387849885364 : Nat := 0
def PySem.W.Fast.tw15092227805178650446 : Nat := 0
def PySem.W.Fast.tw10808331111009001537 : Nat := 0
def PySem.W.Fast.tw11080309036945438991 : Nat := 0
def PySem.W.Fast.tw705285988886854475 : Nat := 0
def PySem.W.Fast.tw5292170634865403057 : Nat := 0
def PySem.W.Fast.tw15000017155145904662 : Nat := 0
def PySem.W.Fast.tw15735411448568013584 : Nat := 0
def PySem.W.Fast.tw5263652506301350836 : Nat := 0
def PySem.W.Fast.tw7835056496341446763 : Nat := 0
def PySem.W.Fast.tw3216812213392175935 : Nat := 0
def PySem.W.Fast.tw7501993771960177522 : Nat := 0
def PySem.W.Fast.tw9227871771921488487 : Nat := 0
def PySem.W.Fast.tw4555152879898076193 : Nat := 0
def PySem.W.Fast.tw2976978228720223807 : Nat := 0
def PySem.W.Fast.tw12725437936998088504 : Nat := 0
def PySem.W.Fast.tw9422597323315011282 : Nat := 0
def PySem.W.Fast.tw1533183517936572383 : Nat := 0
def PySem.W.Fast.tw4373589226488677987 : Nat := 0
def PySem.W.Fast.tw14844011526304829672 : Nat := 0
def PySem.W.Fast.tw5766627274304435 : Nat := 0
def PySem.W.Fast.tw5138507188109320071 : Nat := 0
def PySem.W.Fast.tw11053768386559347115 : Nat := 0
def PySem.W.Fast.tw1999188767613280111 : Nat := 0
def PySem.W.Fast.tw3327919415167666093 : Nat := 0
def PySem.W.Fast.tw4388368626866664879 : Nat := 0
def PySem.W.Fast.tw5534500891792959029 : Nat := 0
def PySem.W.Fast.tw8215231844671095197 : Nat := 0
def PySem.W.Fast.tw11167910279406703332 : Nat := 0
def PySem.W.Fast.tw10027706500962451411 : Nat := 0
def PySem.W.Fast.tw11887814924219584473 : Nat := 0
def PySem.W.Fast.tw989179583494760648 : Nat := 0
def PySem.W.Fast.tw9251010374061668564 : Nat := 0
def PySem.W.Fast.tw18066249019741375195 : Nat := 0
def PySem.W.Fast.tw109410753704579883 : Nat := 0
def PySem.W.Fast.tw1746838221808345480 : Nat := 0
def PySem.W.Fast.tw13646201750898568018 : Nat := 0
def PySem.W.Fast.tw3042367521943963395 : Nat := 0
def PySem.W.Fast.tw8275258990071230588 : Nat := 0
def PySem.W.Fast.tw15640682135140451813 : Nat := 0
def PySem.W.Fast.tw10247995901324655698 : Nat := 0
def PySem.W.Fast.tw4230276195937285432 : Nat := 0
def PySem.W.Fast.tw14115618067161065005 : Nat := 0
def PySem.W.Fast.tw4518227180728753562 : Nat := 0
def PySem.W.Fast.tw6133896656010839421 : Nat := 0
def PySem.W.Fast.tw10042458880870327984 : Nat := 0
def PySem.W.Fast.tw13775466933297930598 : Nat := 0
def PySem.W.Fast.tw551305097459787570 : Nat := 0
def PySem.W.Fast.tw3057092319863666579 : Nat := 0
def PySem.W.Fast.tw6402390474190192193 : Nat := 0
def PySem.W.Fast.tw8300185971805881486 : Nat := 0
def PySem.W.Fast.tw3110223142781018922 : Nat := 0
def PySem.W.Fast.tw4276335448330427420 : Nat := 0
def PySem.W.Fast.tw275705454499433996 : Nat := 0
def PySem.W.Fast.tw9351966103220239505 : Nat := 0
def PySem.W.Fast.tw11449747552921007627 : Nat := 0
def PySem.W.Fast.tw7163772987543443137 : Nat := 0
def PySem.W.Fast.tw6945873790375398245 : Nat := 0
def PySem.W.Fast.tw12919881390226902529 : Nat := 0
def PySem.W.Fast.tw432581067807814810 : Nat := 0
def PySem.W.Fast.tw17799269796389166749 : Nat := 0
def PySem.W.Fast.tw6747254148275548325 : Nat := 0
def PySem.W.Fast.tw16980528755119072495 : Nat := 0
def PySem.W.Fast.tw5928930498689915088 : Nat := 0
def PySem.W.Fast.tw16895052556671837965 : Nat := 0
def PySem.W.Fast.tw10704352896915108595 : Nat := 0
def PySem.W.Fast.tw10358154439354756354 : Nat := 0
def PySem.W.Fast.tw12262277374819883593 : Nat := 0
def PySem.W.Fast.tw7200480550779142404 : Nat := 0
def PySem.W.Fast.tw7480037175347580456 : Nat := 0
def PySem.W.Fast.tw9763904596801642764 : Nat := 0
def PySem.W.Fast.tw4858364666423046079 : Nat := 0
def PySem.W.Fast.tw1261601754643941540 : Nat := 0
def PySem.W.Fast.tw12290009178377692873 : Nat := 0
def PySem.W.Fast.tw2627941872438504717 : Nat := 0
def PySem.W.Fast.tw13946311603011855962 : Nat := 0
def PySem.W.Fast.tw8138876787128133814 : Nat := 0
def PySem.W.Fast.tw8729449666824900058 : Nat := 0
def PySem.W.Fast.tw11319921446857419863 : Nat := 0
def PySem.W.Fast.tw6091815797383093924 : Nat := 0
def PySem.W.Fast.tw167867962419871481 : Nat := 0
def PySem.W.Fast.tw11407345412326297503 : Nat := 0
def PySem.W.Fast.tw3995994320200772938 : Nat := 0
def PySem.W.Fast.tw14742262460940273027 : Nat := 0
def PySem.W.Fast.tw17659307278379812291 : Nat := 0
def PySem.W.Fast.tw3867777496399444963 : Nat := 0
def PySem.W.Fast.tw16580695436155301329 : Nat := 0
def PySem.W.Fast.tw11521251941960174994 : Nat := 0
def PySem.W.Fast.tw7295164516682140580 : Nat := 0
def PySem.W.Fast.tw690548358247108219 : Nat := 0
def PySem.W.Fast.tw13914453646450034907 : Nat := 0
def PySem.W.Fast.tw9324786320954305267 : Nat := 0
def PySem.W.Fast.tw11622940934679351196 : Nat := 0
def PySem.W.Fast.tw3073704018467593346 : Nat := 0
def PySem.W.Fast.tw4307295509783688583 : Nat := 0
def PySem.W.Fast.tw2555972836380399638 : Nat := 0
def PySem.W.Fast.tw16456490770601720229 : Nat := 0
def PySem.W.Fast.tw12141837668990148117 : Nat := 0
def PySem.W.Fast.tw10692314028252335658 : Nat := 0
def PySem.W.Fast.tw666870703181125425 : Nat := 0
def PySem.W.Fast.tw15518435335641855896 : Nat := 0
def PySem.W.Fast.tw10525291228549493696 : Nat := 0
def PySem.W.Fast.tw10721897764202925028 : Nat := 0
def PySem.W.Fast.tw1064512941744062730 : Nat := 0
def PySem.W.Fast.tw9104909982636726741 : Nat := 0
def PySem.W.Fast.tw15031938978477942833 : Nat := 0
def PySem.W.Fast.tw10086411596655152779 : Nat := 0
def PySem.W.Fast.tw13929523447440573574 : Nat := 0
def PySem.W.Fast.tw2908920843785983986 : Nat := 0
def PySem.W.Fast.tw12934194335384575733 : Nat := 0
def PySem.W.Fast.tw7969243099394437414 : Nat := 0
def PySem.W.Fast.tw13366411382325912413 : Nat := 0
def PySem.W.Fast.tw15227840796422559346 : Nat := 0
def PySem.W.Fast.tw10804803638496986411 : Nat := 0
def PySem.W.Fast.tw12751237030799051377 : Nat := 0
def PySem.W.Fast.tw8735677504972876660 : Nat := 0
def PySem.W.Fast.tw11105355587071909635 : Nat := 0
def PySem.W.Fast.tw13719234261435159154 : Nat := 0
def PySem.W.Fast.tw15562866054528668804 : Nat := 0
def PySem.W.Fast.tw14884724477527234829 : Nat := 0
def PySem.W.Fast.tw6450991376632066578 : Nat := 0
def PySem.W.Fast.tw18122673016123529553 : Nat := 0
def PySem.W.Fast.tw5011139953676944850 : Nat := 0
def PySem.W.Fast.tw13674722777282175320 : Nat := 0
def PySem.W.Fast.tw16511194052045303980 : Nat := 0
def PySem.W.Fast.tw2898001285242095678 : Nat := 0
def PySem.W.Fast.tw5240559264719875889 : Nat := 0
def PySem.W.Fast.tw7403402764503181387 : Nat := 0
def PySem.W.Fast.tw12418863109387919896 : Nat := 0
def PySem.W.Fast.tw2300784258560194285 : Nat := 0
def PySem.W.Fast.tw2912480895332842319 : Nat := 0
def PySem.W.Fast.tw15877963499296811641 : Nat := 0
def PySem.W.Fast.tw7871821244628986422 : Nat := 0
def PySem.W.Fast.tw4904177061413621704 : Nat := 0
def PySem.W.Fast.tw1311373345156720703 : Nat := 0
def PySem.W.Fast.tw7508660240994753968 : Nat := 0
def PySem.W.Fast.tw4839103545553956435 : Nat := 0
def PySem.W.Fast.tw3649857180603664169 : Nat := 0
def PySem.W.Fast.tw3996982234275942712 : Nat := 0
def PySem.W.Fast.tw1863684614099235095 : Nat := 0
def PySem.W.Fast.tw8572414412315387473 : Nat := 0
def PySem.W.Fast.tw3035796605462272720 : Nat := 0
def PySem.W.Fast.tw5022944029238646257 : Nat := 0
def PySem.W.Fast.tw11084141913963995598 : Nat := 0
def PySem.W.Fast.tw5950032131642607332 : Nat := 0
def PySem.W.Fast.tw14676305313178135509 : Nat := 0
def PySem.W.Fast.tw12407651544214391037 : Nat := 0
def PySem.W.Fast.tw15463138661716988068 : Nat := 0
def PySem.W.Fast.tw16339184619452089929 : Nat := 0
def PySem.W.Fast.tw5408447296449867509 : Nat := 0
def PySem.W.Fast.tw17065090788175594461 : Nat := 0
def PySem.W.Fast.tw5506770405365829464 : Nat := 0
def PySem.W.Fast.tw15294377003141457941 : Nat := 0
def PySem.W.Fast.tw4816010024794498377 : Nat := 0
def PySem.W.Fast.tw11690322457514384696 : Nat := 0
def PySem.W.Fast.tw5375300254235326897 : Nat := 0
def PySem.W.Fast.tw15337008110599195141 : Nat := 0
def PySem.W.Fast.tw17044039260342085620 : Nat := 0
def PySem.W.Fast.tw11487856945396475885 : Nat := 0
def PySem.W.Fast.tw15872632346815503133 : Nat := 0
def PySem.W.Fast.tw15960702261220831467 : Nat := 0
def PySem.W.Fast.tw971467822194994634 : Nat := 0
def PySem.W.Fast.tw2902493549282757719 : Nat := 0
def PySem.W.Fast.tw5423489379717917145 : Nat := 0
def PySem.W.Fast.tw3793150094190475115 : Nat := 0
def PySem.W.Fast.tw9997256025132492653 : Nat := 0
def PySem.W.Fast.tw17723024936341178954 : Nat := 0
def PySem.W.Fast.tw479477128008582804 : Nat := 0
def PySem.W.Fast.tw9521176798552815334 : Nat := 0
def PySem.W.Fast.tw1596250763727624082 : Nat := 0
def PySem.W.Fast.tw1717797691105220895 : Nat := 0
def PySem.W.Fast.tw2031255346892396770 : Nat := 0
def PySem.W.Fast.tw14112822587812651400 : Nat := 0
def PySem.W.Fast.tw9532439764546963148 : Nat := 0
def PySem.W.Fast.tw12479867408635606304 : Nat := 0
def PySem.W.Fast.tw8523979726471841513 : Nat := 0
def PySem.W.Fast.tw9605454177656372897 : Nat := 0
def PySem.W.Fast.tw7218840053610505085 : Nat := 0
def PySem.W.Fast.tw3573087295333923103 : Nat := 0
def PySem.W.Fast.tw2080358067115265430 : Nat := 0
def PySem.W.Fast.tw14981545998279356649 : Nat := 0
def PySem.W.Fast.tw8021333063908197122 : Nat := 0
def PySem.W.Fast.tw13207557520413114415 : Nat := 0
def PySem.W.Fast.tw63406517140855632 : Nat := 0
def PySem.W.Fast.tw14549911780401693998 : Nat := 0
def PySem.W.Fast.tw16447568848718228043 : Nat := 0
def PySem.W.Fast.tw17475002274612472619 : Nat := 0
def PySem.W.Fast.tw14931945380655216167 : Nat := 0
def PySem.W.Fast.tw5157539788047360979 : Nat := 0
def PySem.W.Fast.tw8405133771974504959 : Nat := 0
def PySem.W.Fast.tw5413179377865320552 : Nat := 0
def PySem.W.Fast.tw16558246381103196757 : Nat := 0
def PySem.W.Fast.tw8928131166535612389 : Nat := 0
def PySem.W.Fast.tw11629138844833505076 : Nat := 0
def PySem.W.Fast.tw6732895315882533340 : Nat := 0
def PySem.W.Fast.tw4231164266106162748 : Nat := 0
def PySem.W.Fast.tw10630732229529178660 : Nat := 0
def PySem.W.Fast.tw10474264584326572210 : Nat := 0
def PySem.W.Fast.tw18290048795929196247 : Nat := 0
def PySem.W.Fast.tw16219632860868775676 : Nat := 0
def PySem.W.Fast.tw879267251679385038 : Nat := 0
def PySem.W.Fast.tw599245164724594104 : Nat := 0
def PySem.W.Fast.tw4190538607264421482 : Nat := 0
def PySem.W.Fast.tw1917054369712641126 : Nat := 0
def PySem.W.Fast.tw16655942418752136619 : Nat := 0
def PySem.W.Fast.tw4172894629709727991 : Nat := 0
def PySem.W.Fast.tw4583483354839870591 : Nat := 0
def PySem.W.Fast.tw6040723691336619456 : Nat := 0
def PySem.W.Fast.tw8347752559686417080 : Nat := 0
def PySem.W.Fast.tw8589820702011441098 : Nat := 0
def PySem.W.Fast.tw5334185287565563437 : Nat := 0
def PySem.W.Fast.tw8252740251647555329 : Nat := 0
def PySem.W.Fast.tw9832662300928843907 : Nat := 0
def PySem.W.Fast.tw10083562834721310690 : Nat := 0
def PySem.W.Fast.tw11519695773112528803 : Nat := 0
def PySem.W.Fast.tw2741681545699391895 : Nat := 0
def PySem.W.Fast.tw14025369251801614573 : Nat := 0
def PySem.W.Fast.tw9677457685115492949 : Nat := 0
def PySem.W.Fast.tw913345500011158508 : Nat := 0
def PySem.W.Fast.tw15564629462157653699 : Nat := 0
def PySem.W.Fast.tw11127574279846317632 : Nat := 0
def PySem.W.Fast.tw4926470190151286495 : Nat := 0
def PySem.W.Fast.tw7574270535539043818 : Nat := 0
def PySem.W.Fast.tw18376773258081574686 : Nat := 0
def PySem.W.Fast.tw5390807396089183218 : Nat := 0
def PySem.W.Fast.tw14050337916995763655 : Nat := 0
def PySem.W.Fast.tw8916989779330730919 : Nat := 0
def PySem.W.Fast.tw5188967060984697113 : Nat := 0
def PySem.W.Fast.tw11895745445668816098 : Nat := 0
def PySem.W.Fast.tw7252763022248224772 : Nat := 0
def PySem.W.Fast.tw16740302687414583571 : Nat := 0
def PySem.W.Fast.tw10467524680522429861 : Nat := 0
def PySem.W.Fast.tw2825704902245130617 : Nat := 0
def PySem.W.Fast.tw12607388424469719481 : Nat := 0
def PySem.W.Fast.tw14685951496471359210 : Nat := 0
def PySem.W.Fast.tw17030706812072968454 : Nat := 0
def PySem.W.Fast.tw13617397018678234314 : Nat := 0
def PySem.W.Fast.tw17113968472153602024 : Nat := 0
def PySem.W.Fast.tw7211037632399895088 : Nat := 0
def PySem.W.Fast.tw17846924448036515291 : Nat := 0
def PySem.W.Fast.tw11844928332139990664 : Nat := 0
def PySem.W.Fast.tw10091828596783113435 : Nat := 0
def PySem.W.Fast.tw14108734921286476843 : Nat := 0
def PySem.W.Fast.tw6342533794936184661 : Nat := 0
def PySem.W.Fast.tw4638236166650146607 : Nat := 0
def PySem.W.Fast.tw9032001713064828860 : Nat := 0
def PySem.W.Fast.tw3870469946491846318 : Nat := 0
def PySem.W.Fast.tw136216075885601733 : Nat := 0
def PySem.W.Fast.tw10566074488687487582 : Nat := 0
def PySem.W.Fast.tw13012714871540725849 : Nat := 0
def PySem.W.Fast.tw4702137213242100525 : Nat := 0
def PySem.W.Fast.tw6558752817532723168 : Nat := 0
def PySem.W.Fast.tw2024755010953016002 : Nat := 0
def PySem.W.Fast.tw8502552449015330090 : Nat := 0
def PySem.W.Fast.tw503250748876094092 : Nat := 0
def PySem.W.Fast.tw4447378047654473437 : Nat := 0
def PySem.W.Fast.tw6168507635809858578 : Nat := 0
def PySem.W.Fast.tw11479827759838931525 : Nat := 0
def PySem.W.Fast.tw5280525938208570744 : Nat := 0
def PySem.W.Fast.tw987002349046978007 : Nat := 0
def PySem.W.Fast.tw7761590407253171591 : Nat := 0
def PySem.W.Fast.tw5359158186808179671 : Nat := 0
def PySem.W.Fast.tw1087215983468263613 : Nat := 0
def PySem.W.Fast.tw17747928298864732629 : Nat := 0
def PySem.W.Fast.tw5317770077427414341 : Nat := 0
def PySem.W.Fast.tw15191165932451816551 : Nat := 0
def PySem.W.Fast.tw9393356213042226297 : Nat := 0
def PySem.W.Fast.tw17817467009432304086 : Nat := 0
def PySem.W.Fast.tw8765628305341222588 : Nat := 0
def PySem.W.Fast.tw572296709502677425 : Nat := 0
def PySem.W.Fast.tw13305421427733821945 : Nat := 0
def PySem.W.Fast.tw6631367616344245042 : Nat := 0
def PySem.W.Fast.tw1102314527303170642 : Nat := 0
def PySem.W.Fast.tw17254327575112023950 : Nat := 0
def PySem.W.Fast.tw6550840298732784028 : Nat := 0
def PySem.W.Fast.tw8159988797337891346 : Nat := 0
def PySem.W.Fast.tw16280213546730779898 : Nat := 0
def PySem.W.Fast.tw7676432701735982369 : Nat := 0
def PySem.W.Fast.tw4108540590671828817 : Nat := 0
def PySem.W.Fast.tw6931738874375423806 : Nat := 0
def PySem.W.Fast.tw13023925021304491907 : Nat := 0
def PySem.W.Fast.tw12016635619057465789 : Nat := 0
def PySem.W.Fast.tw12645371182790922308 : Nat := 0
def PySem.W.Fast.tw15816652120150355686 : Nat := 0
def PySem.W.Fast.tw5159534972152928075 : Nat := 0
def PySem.W.Fast.tw1925715213346591048 : Nat := 0
def PySem.W.Fast.tw13273242487326418390 : Nat := 0
def PySem.W.Fast.tw4009345971658885649 : Nat := 0
def PySem.W.Fast.tw5769839123655819215 : Nat := 0
def PySem.W.Fast.tw7188364494390325915 : Nat := 0
def PySem.W.Fast.tw17798895538175922050 : Nat := 0
def PySem.W.Fast.tw7202071637020817528 : Nat := 0
def PySem.W.Fast.tw281730942841368287 : Nat := 0
def PySem.W.Fast.tw2480092169908853445 : Nat := 0
def PySem.W.Fast.tw17642737725659332554 : Nat := 0
def PySem.W.Fast.tw3327636855795140353 : Nat := 0
def PySem.W.Fast.tw15662311506018111858 : Nat := 0
def PySem.W.Fast.tw1065307309632352117 : Nat := 0
def PySem.W.Fast.tw1902362560275943223 : Nat := 0
def PySem.W.Fast.tw16541622924601082702 : Nat := 0
def PySem.W.Fast.tw3612051963393009570 : Nat := 0
def PySem.W.Fast.tw1390243177138092500 : Nat := 0
def PySem.W.Fast.tw4381344800285036701 : Nat := 0
def PySem.W.Fast.tw9011582121306911041 : Nat := 0
def PySem.W.Fast.tw16448518767621220055 : Nat := 0
def PySem.W.Fast.tw10009960016674779088 : Nat := 0
def PySem.W.Fast.tw18300838616741449187 : Nat := 0
def PySem.W.Fast.tw6783662142288201626 : Nat := 0
def PySem.W.Fast.tw18006863807217891847 : Nat := 0
def PySem.W.Fast.tw24080124641698828 : Nat := 0
def PySem.W.Fast.tw8295094015759591528 : Nat := 0
def PySem.W.Fast.tw10715251462514224181 : Nat := 0
def PySem.W.Fast.tw6965644124997066244 : Nat := 0
def PySem.W.Fast.tw12539390026447219309 : Nat := 0
def PySem.W.Fast.tw10927620504004940685 : Nat := 0
def PySem.W.Fast.tw6859152420080090627 : Nat := 0
def PySem.W.Fast.tw8406718443656590172 : Nat := 0
def PySem.W.Fast.tw4932712247925216856 : Nat := 0
def PySem.W.Fast.tw18246025923126273657 : Nat := 0
def PySem.W.Fast.tw3748051582806985329 : Nat := 0
def PySem.W.Fast.tw5296587351488550827 : Nat := 0
def PySem.W.Fast.tw8458802237747666262 : Nat := 0
def PySem.W.Fast.tw17195142773608414666 : Nat := 0
def PySem.W.Fast.tw6352910128759683797 : Nat := 0
def PySem.W.Fast.tw13242905817194342131 : Nat := 0
def PySem.W.Fast.tw13448776426147047350 : Nat := 0
def PySem.W.Fast.tw2034905149363946349 : Nat := 0
def PySem.W.Fast.tw17608936904705276649 : Nat := 0
def PySem.W.Fast.tw12006460210183629258 : Nat := 0
def PySem.W.Fast.tw13680178713351371872 : Nat := 0
def PySem.W.Fast.tw12591898323945975692 : Nat := 0
def PySem.W.Fast.tw10607201319906763014 : Nat := 0
def PySem.W.Fast.tw9272049440671236643 : Nat := 0
def PySem.W.Fast.tw3728774630742390859 : Nat := 0
def PySem.W.Fast.tw4817981520610449498 : Nat := 0
def PySem.W.Fast.tw8881455224502759246 : Nat := 0
def PySem.W.Fast.tw49236053113030722 : Nat := 0
def PySem.W.Fast.tw12411545660424373563 : Nat := 0
def PySem.W.Fast.tw7325910407831733397 : Nat := 0
def PySem.W.Fast.tw14221136253204223727 : Nat := 0
def PySem.W.Fast.tw17885058949749633796 : Nat := 0
def PySem.W.Fast.tw2455771576359800867 : Nat := 0
def PySem.W.Fast.tw6872824371521600570 : Nat := 0
def PySem.W.Fast.tw12199565666243771994 : Nat := 0
def PySem.W.Fast.tw13403256391748326088 : Nat := 0
def PySem.W.Fast.tw13578190949981549597 : Nat := 0
def PySem.W.Fast.tw12635359498871011447 : Nat := 0
def PySem.W.Fast.tw6651457829779720591 : Nat := 0
def PySem.W.Fast.tw17055005645692059595 : Nat := 0
def PySem.W.Fast.tw17556437951409630438 : Nat := 0
def PySem.W.Fast.tw17727615492047349420 : Nat := 0
def PySem.W.Fast.tw10675635281546826899 : Nat := 0
def PySem.W.Fast.tw11682738519997512046 : Nat := 0
def PySem.W.Fast.tw4427540123011494253 : Nat := 0
def PySem.W.Fast.tw11161875914409169467 : Nat := 0
def PySem.W.Fast.tw10369787119394846326 : Nat := 0
def PySem.W.Fast.tw4293354608618525917 : Nat := 0
def PySem.W.Fast.tw12374367129913966364 : Nat := 0
def PySem.W.Fast.tw10741914989166406592 : Nat := 0
def PySem.W.Fast.tw9950634255044368411 : Nat := 0
def PySem.W.Fast.tw13622082129817359009 : Nat := 0
def PySem.W.Fast.tw4198122970357534398 : Nat := 0
def PySem.W.Fast.tw16931961374996885219 : Nat := 0
def PySem.W.Fast.tw2780945388133134368 : Nat := 0
def PySem.W.Fast.tw9162565811655056435 : Nat := 0
def PySem.W.Fast.tw15639868801172293993 : Nat := 0
def PySem.W.Fast.tw18416109015585791997 : Nat := 0
def PySem.W.Fast.tw13756611186049705469 : Nat := 0
def PySem.W.Fast.tw852316076343183323 : Nat := 0
def PySem.W.Fast.tw323444098674846980 : Nat := 0
def PySem.W.Fast.tw12388643207643214475 : Nat := 0
def PySem.W.Fast.tw283461312069741005 : Nat := 0
def PySem.W.Fast.tw1733078851466435635 : Nat := 0
def PySem.W.Fast.tw3001502526765000143 : Nat := 0
def PySem.W.Fast.tw10439676045749447963 : Nat := 0
def PySem.W.Fast.tw3332423891046375266 : Nat := 0
def PySem.W.Fast.tw17755360896998814879 : Nat := 0
def PySem.W.Fast.tw13953694818392552921 : Nat := 0
def PySem.W.Fast.tw1263731762073682067 : Nat := 0
def PySem.W.Fast.tw440113820176571796 : Nat := 0
def PySem.W.Fast.tw11734152470457748766 : Nat := 0
def PySem.W.Fast.tw15494002072851743426 : Nat := 0
def PySem.W.Fast.tw11748420049172727465 : Nat := 0
def PySem.W.Fast.tw17139371847035608089 : Nat := 0
def PySem.W.Fast.tw6666886608402604196 : Nat := 0
def PySem.W.Fast.tw879883427013208499 : Nat := 0
def PySem.W.Fast.tw4767329205071457317 : Nat := 0
def PySem.W.Fast.tw14786288917074378979 : Nat := 0
def PySem.W.Fast.tw11153089814273811082 : Nat := 0
def PySem.W.Fast.tw17390826849626241125 : Nat := 0
def PySem.W.Fast.tw16473510397719738880 : Nat := 0
def PySem.W.Fast.tw3381618570939039734 : Nat := 0
def PySem.W.Fast.tw8436056410687345741 : Nat := 0
def PySem.W.Fast.tw10312624864208631514 : Nat := 0
def PySem.W.Fast.tw3981989693390919673 : Nat := 0
def PySem.W.Fast.tw13833670451048162295 : Nat := 0
def PySem.W.Fast.tw15852924650387798744 : Nat := 0
def PySem.W.Fast.tw15725174534129922438 : Nat := 0
def PySem.W.Fast.tw121705136103016166 : Nat := 0
def PySem.W.Fast.tw8306804576184106662 : Nat := 0
def PySem.W.Fast.tw11755227264118718638 : Nat := 0
def PySem.W.Fast.tw2355268596891750514 : Nat := 0
def PySem.W.Fast.tw480646693709154841 : Nat := 0
def PySem.W.Fast.tw6826995273655532888 : Nat := 0
def PySem.W.Fast.tw5441315891920062129 : Nat := 0
def PySem.W.Fast.tw6532400280207352306 : Nat := 0
def PySem.W.Fast.tw9427472152893473745 : Nat := 0
def PySem.W.Fast.tw4042160156414988824 : Nat := 0
def PySem.W.Fast.tw8175359874590449037 : Nat := 0
def PySem.W.Fast.tw800938273372210306 : Nat := 0
def PySem.W.Fast.tw14230839092532357885 : Nat := 0
def PySem.W.Fast.tw15357467048204742759 : Nat := 0
def PySem.W.Fast.tw16859600465293108522 : Nat := 0
def PySem.W.Fast.tw1513106177302552546 : Nat := 0
def PySem.W.Fast.tw18384992161728746129 : Nat := 0
def PySem.W.Fast.tw15438170562566130001 : Nat := 0
def PySem.W.Fast.tw3893409036470653667 : Nat := 0
def PySem.W.Fast.tw12555257058667849994 : Nat := 0
def PySem.W.Fast.tw9402064347471807871 : Nat := 0
def PySem.W.Fast.tw2915885620690650019 : Nat := 0
def PySem.W.Fast.tw380766274143076071 : Nat := 0
def PySem.W.Fast.tw13664473179538213764 : Nat := 0
def PySem.W.Fast.tw17078476260074321967 : Nat := 0
def PySem.W.Fast.tw10232064957077986653 : Nat := 0
def PySem.W.Fast.tw15943221883687198689 : Nat := 0
def PySem.W.Fast.tw13833027693105590474 : Nat := 0
def PySem.W.Fast.tw10573685402794273328 : Nat := 0
def PySem.W.Fast.tw17316285424444790402 : Nat := 0
def PySem.W.Fast.tw6945707601024655039 : Nat := 0
def PySem.W.Fast.tw18103622624005313423 : Nat := 0
def PySem.W.Fast.tw18262993152985261152 : Nat := 0
def PySem.W.Fast.tw7175760233346678396 : Nat := 0
def PySem.W.Fast.tw9526560863608931329 : Nat := 0
def PySem.W.Fast.tw2640457535371309109 : Nat := 0
def PySem.W.Fast.tw927013076779300379 : Nat := 0
def PySem.W.Fast.tw8251152854737267021 : Nat := 0
def PySem.W.Fast.tw13222809740224531480 : Nat := 0
def PySem.W.Fast.tw5255969425479272146 : Nat := 0
def PySem.W.Fast.tw12042012919634033835 : Nat := 0
def PySem.W.Fast.tw3453269652819466267 : Nat := 0
def PySem.W.Fast.tw14292077522857889066 : Nat := 0
def PySem.W.Fast.tw5495780761861157565 : Nat := 0
def PySem.W.Fast.tw7975832176928121168 : Nat := 0
def PySem.W.Fast.tw10144686718395363476 : Nat := 0
def PySem.W.Fast.tw3925636780515620076 : Nat := 0
def PySem.W.Fast.tw8415838104849692374 : Nat := 0
def PySem.W.Fast.tw14385940455189001192 : Nat := 0
def PySem.W.Fast.tw16927201023609413474 : Nat := 0
def PySem.W.Fast.tw17096613309618014607 : Nat := 0
def PySem.W.Fast.tw5044907755827373128 : Nat := 0
def PySem.W.Fast.tw11579956526250904174 : Nat := 0
def PySem.W.Fast.tw5142901836577131707 : Nat := 0
def PySem.W.Fast.tw15328709065688168955 : Nat := 0
def PySem.W.Fast.tw13474388113000786764 : Nat := 0
def PySem.W.Fast.tw3313336396242764681 : Nat := 0
def PySem.W.Fast.tw1410091660535207990 : Nat := 0
def PySem.W.Fast.tw12350244489983831858 : Nat := 0
def PySem.W.Fast.tw824340675214188953 : Nat := 0
def PySem.W.Fast.tw10875163280483450086 : Nat := 0
def PySem.W.Fast.tw9024318181283499748 : Nat := 0
def PySem.W.Fast.tw12706605446941123972 : Nat := 0
def PySem.W.Fast.tw4270681574592387142 : Nat := 0
def PySem.W.Fast.tw14753413796957141120 : Nat := 0
def PySem.W.Fast.tw7530543117188245875 : Nat := 0
def PySem.W.Fast.tw10115455233182305040 : Nat := 0
def PySem.W.Fast.tw1366110337770978269 : Nat := 0
def PySem.W.Fast.tw1257469683407288832 : Nat := 0
def PySem.W.Fast.tw7163475931241629803 : Nat := 0
def PySem.W.Fast.tw12063477967973589417 : Nat := 0
def PySem.W.Fast.tw8520281734238698230 : Nat := 0
def PySem.W.Fast.tw12695586003932787622 : Nat := 0
def PySem.W.Fast.tw16248134427970372293 : Nat := 0
def PySem.W.Fast.tw1110671798565291385 : Nat := 0
def PySem.W.Fast.tw12315101027980660529 : Nat := 0
def PySem.W.Fast.tw17149124368954852979 : Nat := 0
def PySem.W.Fast.tw6822151643022589561 : Nat := 0
def PySem.W.Fast.tw905720041800977268 : Nat := 0
def PySem.W.Fast.tw9009681717105975653 : Nat := 0
def PySem.W.Fast.tw16917934163624037255 : Nat := 0
def PySem.W.Fast.tw13178857279170959640 : Nat := 0
def PySem.W.Fast.tw10996670412777262952 : Nat := 0
def PySem.W.Fast.tw11395116584749327324 : Nat := 0
def PySem.W.Fast.tw1451250841305327352 : Nat := 0
def PySem.W.Fast.tw3050560227297073544 : Nat := 0
def PySem.W.Fast.tw11814851623437597991 : Nat := 0
def PySem.W.Fast.tw15324713789287173416 : Nat := 0
def PySem.W.Fast.tw15989740936900970454 : Nat := 0
def PySem.W.Fast.tw4112649259487905687 : Nat := 0
def PySem.W.Fast.tw15623740952495712530 : Nat := 0
def PySem.W.Fast.tw7309928332926998598 : Nat := 0
def PySem.W.Fast.tw6721245584331797219 : Nat := 0
def PySem.W.Fast.tw16239999200752964577 : Nat := 0
def PySem.W.Fast.tw9045756917852373061 : Nat := 0
def PySem.W.Fast.tw15232186066984423501 : Nat := 0
def PySem.W.Fast.tw8481418960354631788 : Nat := 0
def PySem.W.Fast.tw5030799291274470561 : Nat := 0
def PySem.W.Fast.tw862164222150747375 : Nat := 0
def PySem.W.Fast.tw14999590135342291931 : Nat := 0
def PySem.W.Fast.tw16884598492387340441 : Nat := 0
def PySem.W.Fast.tw9429647313408940169 : Nat := 0
def PySem.W.Fast.tw3153695299128711167 : Nat := 0
def PySem.W.Fast.tw15552047319821893608 : Nat := 0
def PySem.W.Fast.tw9685679959970580618 : Nat := 0
def PySem.W.Fast.tw1440520092981847456 : Nat := 0
def PySem.W.Fast.tw9662465930887988629 : Nat := 0
def PySem.W.Fast.tw7270500919993396119 : Nat := 0
def PySem.W.Fast.tw11238857636046968546 : Nat := 0
def PySem.W.Fast.tw3539037289713704914 : Nat := 0
def PySem.W.Fast.tw13600194191583719819 : Nat := 0
def PySem.W.Fast.tw6379481272669388804 : Nat := 0
def PySem.W.Fast.tw17341834763098152679 : Nat := 0
def PySem.W.Fast.tw15491707213820728977 : Nat := 0
def PySem.W.Fast.tw4762298575501378064 : Nat := 0
def PySem.W.Fast.tw8298510698620844072 : Nat := 0
def PySem.W.Fast.tw91392204743703495 : Nat := 0
def PySem.W.Fast.tw16031020348351318063 : Nat := 0
def PySem.W.Fast.tw6255905046610154718 : Nat := 0
def PySem.W.Fast.tw9315016980077017778 : Nat := 0
def PySem.W.Fast.tw18161587152224052457 : Nat := 0
def PySem.W.Fast.tw5058803939367616846 : Nat := 0
def PySem.W.Fast.tw5857111175091350839 : Nat := 0
def PySem.W.Fast.tw13903060313563572220 : Nat := 0
def PySem.W.Fast.tw3436097234878463193 : Nat := 0
def PySem.W.Fast.tw3987655364580924596 : Nat := 0
def PySem.W.Fast.tw13578467506067542246 : Nat := 0
def PySem.W.Fast.tw6194283247650711768 : Nat := 0
def PySem.W.Fast.tw8212841534864299237 : Nat := 0
def PySem.W.Fast.tw3518094787687160198 : Nat := 0
def PySem.W.Fast.tw4780394061503499157 : Nat := 0
def PySem.W.Fast.tw586004837525457882 : Nat := 0
def PySem.W.Fast.tw15866735832308394719 : Nat := 0
def PySem.W.Fast.tw5577038856701440824 : Nat := 0
def PySem.W.Fast.tw5116355144786703478 : Nat := 0
def PySem.W.Fast.tw5767109546071896851 : Nat := 0
def PySem.W.Fast.tw3084600087603227418 : Nat := 0
def PySem.W.Fast.tw6789145016936490179 : Nat := 0
def PySem.W.Fast.tw3401673236293137935 : Nat := 0
def PySem.W.Fast.tw454538571382911705 : Nat := 0
def PySem.W.Fast.tw15392377585920060224 : Nat := 0
def PySem.W.Fast.tw6456228847425866583 : Nat := 0
def PySem.W.Fast.tw14916693781690735355 : Nat := 0
def PySem.W.Fast.tw3212169386451960094 : Nat := 0
def PySem.W.Fast.tw9104879795813440236 : Nat := 0
def PySem.W.Fast.tw3710554358667004197 : Nat := 0
def PySem.W.Fast.tw2289587810532301392 : Nat := 0
def PySem.W.Fast.tw17721344243334225540 : Nat := 0
def PySem.W.Fast.tw10280400500315841761 : Nat := 0
def PySem.W.Fast.tw7098307639203595361 : Nat := 0
def PySem.W.Fast.tw18183030866881305149 : Nat := 0
def PySem.W.Fast.tw2364655612799628262 : Nat := 0
def PySem.W.Fast.tw14560349206885429353 : Nat := 0
def PySem.W.Fast.tw11726176104144250214 : Nat := 0
def PySem.W.Fast.tw2444507496538533296 : Nat := 0
def PySem.W.Fast.tw378799893390507226 : Nat := 0
def PySem.W.Fast.tw7603324624167530547 : Nat := 0
def PySem.W.Fast.tw13253521752442815931 : Nat := 0
def PySem.W.Fast.tw7615693496670272681 : Nat := 0
def PySem.W.Fast.tw16294771116998496650 : Nat := 0
def PySem.W.Fast.tw9350928558962828860 : Nat := 0
def PySem.W.Fast.tw6998805623917802977 : Nat := 0
def PySem.W.Fast.tw17767275179422959588 : Nat := 0
def PySem.W.Fast.tw11958921260632873925 : Nat := 0
def PySem.W.Fast.tw10972135871868061963 : Nat := 0
def PySem.W.Fast.tw985516157847057175 : Nat := 0
def PySem.W.Fast.tw4219902579079604493 : Nat := 0
def PySem.W.Fast.tw12111079910749385326 : Nat := 0
def PySem.W.Fast.tw7695349076386115049 : Nat := 0
def PySem.W.Fast.tw14226975317001732654 : Nat := 0
def PySem.W.Fast.tw11891433339153423044 : Nat := 0
def PySem.W.Fast.tw8242884531681072132 : Nat := 0
def PySem.W.Fast.tw900400648569662858 : Nat := 0
def PySem.W.Fast.tw9303383985829124983 : Nat := 0
def PySem.W.Fast.tw12315646852343592250 : Nat := 0
def PySem.W.Fast.tw13034576908317309501 : Nat := 0
def PySem.W.Fast.tw11355580306784961292 : Nat := 0
def PySem.W.Fast.tw2177055803626642577 : Nat := 0
def PySem.W.Fast.tw17245921453495648285 : Nat := 0
def PySem.W.Fast.tw4132377575259444499 : Nat := 0
def PySem.W.Fast.tw6950708128169693949 : Nat := 0
def PySem.W.Fast.tw1952295368419668798 : Nat := 0
def PySem.W.Fast.tw13572890100735692086 : Nat := 0
def PySem.W.Fast.tw8099188321526930910 : Nat := 0
def PySem.W.Fast.tw2468170737070743024 : Nat := 0
def PySem.W.Fast.tw12184560629751141604 : Nat := 0
def PySem.W.Fast.tw4826314541598754185 : Nat := 0
def PySem.W.Fast.tw2493510822291031679 : Nat := 0
def PySem.W.Fast.tw4963840062061790105 : Nat := 0
def PySem.W.Fast.tw1333878373777620990 : Nat := 0
def PySem.W.Fast.tw14000554423940828051 : Nat := 0
def PySem.W.Fast.tw2152653000541971416 : Nat := 0
def PySem.W.Fast.tw3580074560779251667 : Nat := 0
def PySem.W.Fast.tw7940584382188727882 : Nat := 0
def PySem.W.Fast.tw862433611780817594 : Nat := 0
def PySem.W.Fast.tw3528556576544083523 : Nat := 0
def PySem.W.Fast.tw4378026254431204651 : Nat := 0
def PySem.W.Fast.tw5945273134327976236 : Nat := 0
def PySem.W.Fast.tw16614786207744415786 : Nat := 0
def PySem.W.Fast.tw1215094809592200386 : Nat := 0
def PySem.W.Fast.tw2589876114501284775 : Nat := 0
def PySem.W.Fast.tw7598600184932892676 : Nat := 0
def PySem.W.Fast.tw7661244598375421862 : Nat := 0
def PySem.W.Fast.tw9400332758262012506 : Nat := 0
def PySem.W.Fast.tw1596031580453125199 : Nat := 0
def PySem.W.Fast.tw17338148346867373229 : Nat := 0
def PySem.W.Fast.tw14463224041580380497 : Nat := 0
def PySem.W.Fast.tw3923766611694592543 : Nat := 0
def PySem.W.Fast.tw16668778559503673414 : Nat := 0
def PySem.W.Fast.tw5718537295957301357 : Nat := 0
def PySem.W.Fast.tw10563306655996586063 : Nat := 0
def PySem.W.Fast.tw11480320921173204510 : Nat := 0
def PySem.W.Fast.tw13558664549085365975 : Nat := 0
def PySem.W.Fast.tw10637067776746364928 : Nat := 0
def PySem.W.Fast.tw17275115982007587352 : Nat := 0
def PySem.W.Fast.tw11045278965687827517 : Nat := 0
def PySem.W.Fast.tw3604253835533362188 : Nat := 0
def PySem.W.Fast.tw9310036080776488351 : Nat := 0
def PySem.W.Fast.tw13537659030991477756 : Nat := 0
def PySem.W.Fast.tw252165802830959050 : Nat := 0
def PySem.W.Fast.tw15713209113976701252 : Nat := 0
def PySem.W.Fast.tw8547404463976858354 : Nat := 0
def PySem.W.Fast.tw2051796241170295193 : Nat := 0
def PySem.W.Fast.tw14444501553364119883 : Nat := 0
def PySem.W.Fast.tw7890063035315675426 : Nat := 0
def PySem.W.Fast.tw9696949056729741693 : Nat := 0
def PySem.W.Fast.tw17618489808274724668 : Nat := 0
def PySem.W.Fast.tw2891008784977360378 : Nat := 0
def PySem.W.Fast.tw7598151934388087288 : Nat := 0
def PySem.W.Fast.tw8541891070926911818 : Nat := 0
def PySem.W.Fast.tw9421073525138564816 : Nat := 0
def PySem.W.Fast.tw4473041845421677461 : Nat := 0
def PySem.W.Fast.tw1041950407504264273 : Nat := 0
def PySem.W.Fast.tw12942466512314386679 : Nat := 0
def PySem.W.Fast.tw3628161722227277922 : Nat := 0
def PySem.W.Fast.tw8235696389188741701 : Nat := 0
def PySem.W.Fast.tw666961801232796659 : Nat := 0
def PySem.W.Fast.tw18067067144785658333 : Nat := 0
def PySem.W.Fast.tw16679936433378129478 : Nat := 0
def PySem.W.Fast.tw4483988208113347071 : Nat := 0
def PySem.W.Fast.tw3604131336511068857 : Nat := 0
def PySem.W.Fast.tw1364247235997937206 : Nat := 0
def PySem.W.Fast.tw14745293226820086437 : Nat := 0
def PySem.W.Fast.tw4115091609715298810 : Nat := 0
def PySem.W.Fast.tw16855918274901787238 : Nat := 0
def PySem.W.Fast.tw14514933692475012221 : Nat := 0
def PySem.W.Fast.tw4485066444150634324 : Nat := 0
def PySem.W.Fast.tw8050801812034487302 : Nat := 0
def PySem.W.Fast.tw12684202258221660105 : Nat := 0
def PySem.W.Fast.tw15395212133879519006 : Nat := 0
def PySem.W.Fast.tw13097611073695811711 : Nat := 0
def PySem.W.Fast.tw16174133507800095977 : Nat := 0
def PySem.W.Fast.tw16885842029639263426 : Nat := 0
def PySem.W.Fast.tw13504388270103775655 : Nat := 0
def PySem.W.Fast.tw9388199178253569290 : Nat := 0
def PySem.W.Fast.tw3131013121511147255 : Nat := 0
def PySem.W.Fast.tw15775193274960502436 : Nat := 0
def PySem.W.Fast.tw10028302480534444647 : Nat := 0
def PySem.W.Fast.tw7192824618009062414 : Nat := 0
def PySem.W.Fast.tw8383305417486761989 : Nat := 0
def PySem.W.Fast.tw18194325218352398275 : Nat := 0
def PySem.W.Fast.tw734336324895567346 : Nat := 0
def PySem.W.Fast.tw9950556536605986380 : Nat := 0
def PySem.W.Fast.tw7233902509564135623 : Nat := 0
def PySem.W.Fast.tw226093818643944320 : Nat := 0
def PySem.W.Fast.tw4719783478349046873 : Nat := 0
def PySem.W.Fast.tw10701538526475544631 : Nat := 0
def PySem.W.Fast.tw690507186106365733 : Nat := 0
def PySem.W.Fast.tw9080993914210891853 : Nat := 0
def PySem.W.Fast.tw656808179762009982 : Nat := 0
def PySem.W.Fast.tw3141532739020897912 : Nat := 0
def PySem.W.Fast.tw14427769342441456247 : Nat := 0
def PySem.W.Fast.tw12464128582375975945 : Nat := 0
def PySem.W.Fast.tw9717739591481431009 : Nat := 0
def PySem.W.Fast.tw14082514771932308794 : Nat := 0
def PySem.W.Fast.tw14443217550701684604 : Nat := 0
def PySem.W.Fast.tw889518623622585828 : Nat := 0
def PySem.W.Fast.tw14382410707063537822 : Nat := 0
def PySem.W.Fast.tw1371447868850899625 : Nat := 0
def PySem.W.Fast.tw7672912059546199743 : Nat := 0
def PySem.W.Fast.tw9711139077138624229 : Nat := 0
def PySem.W.Fast.tw15977841223414878054 : Nat := 0
def PySem.W.Fast.tw13145013393551232749 : Nat := 0
def PySem.W.Fast.tw10188554531344656565 : Nat := 0
def PySem.W.Fast.tw15889399002439590791 : Nat := 0
def PySem.W.Fast.tw17910361513701300022 : Nat := 0
def PySem.W.Fast.tw8997063256500083972 : Nat := 0
def PySem.W.Fast.tw3286526950389803493 : Nat := 0
def PySem.W.Fast.tw15092513850191059171 : Nat := 0
def PySem.W.Fast.tw3156065609492959554 : Nat := 0
def PySem.W.Fast.tw768876619829243042 : Nat := 0
def PySem.W.Fast.tw2729363991164409695 : Nat := 0
def PySem.W.Fast.tw2190925992300621009 : Nat := 0
def PySem.W.Fast.tw8144496597685806748 : Nat := 0
def PySem.W.Fast.tw3528168634019939246 : Nat := 0
def PySem.W.Fast.tw14111759951366155790 : Nat := 0
def PySem.W.Fast.tw18066851142880063562 : Nat := 0
def PySem.W.Fast.tw16718643477133295814 : Nat := 0
def PySem.W.Fast.tw14370297195889229681 : Nat := 0
def PySem.W.Fast.tw6550612507278228347 : Nat := 0
def PySem.W.Fast.tw14656928781762545992 : Nat := 0
def PySem.W.Fast.tw13395174776381548695 : Nat := 0
def PySem.W.Fast.tw16780332390183177925 : Nat := 0
def PySem.W.Fast.tw9568223370725300185 : Nat := 0
def PySem.W.Fast.tw10058733851667137032 : Nat := 0
def PySem.W.Fast.tw16092843898435755613 : Nat := 0
def PySem.W.Fast.tw9591544049513250925 : Nat := 0
def PySem.W.Fast.tw2509715435783121741 : Nat := 0
def PySem.W.Fast.tw1110369270346830861 : Nat := 0
def PySem.W.Fast.tw2641002010993636492 : Nat := 0
def PySem.W.Fast.tw17367567453350084433 : Nat := 0
def PySem.W.Fast.tw15381945310913769490 : Nat := 0
def PySem.W.Fast.tw6557992459917230382 : Nat := 0
def PySem.W.Fast.tw17431002807053199231 : Nat := 0
def PySem.W.Fast.tw10828779385761675331 : Nat := 0
def PySem.W.Fast.tw2747379121221401541 : Nat := 0
def PySem.W.Fast.tw395150647058141680 : Nat := 0
def PySem.W.Fast.tw1335541467965841589 : Nat := 0
def PySem.W.Fast.tw910185628906467180 : Nat := 0
def PySem.W.Fast.tw3913494532123239610 : Nat := 0
def PySem.W.Fast.tw4418508369605432032 : Nat := 0
def PySem.W.Fast.tw9477609878033376455 : Nat := 0
def PySem.W.Fast.tw12978715521670778768 : Nat := 0
def PySem.W.Fast.tw9264313810718089885 : Nat := 0
def PySem.W.Fast.tw13239313145780605509 : Nat := 0
def PySem.W.Fast.tw7241715635097588905 : Nat := 0
def PySem.W.Fast.tw14458136613213290411 : Nat := 0
def PySem.W.Fast.tw2252981561187466589 : Nat := 0
def PySem.W.Fast.tw11935729786938584035 : Nat := 0
def PySem.W.Fast.tw8398529939567236915 : Nat := 0
def PySem.W.Fast.tw16720206378112974156 : Nat := 0
def PySem.W.Fast.tw11144871858528797508 : Nat := 0
def PySem.W.Fast.tw10966181293433703467 : Nat := 0
def PySem.W.Fast.tw2300507208726539307 : Nat := 0
def PySem.W.Fast.tw16710042896992543207 : Nat := 0
def PySem.W.Fast.tw14976264891136239009 : Nat := 0
def PySem.W.Fast.tw13111381176934443049 : Nat := 0
def PySem.W.Fast.tw436234231054414472 : Nat := 0
def PySem.W.Fast.tw2652684685433498473 : Nat := 0
def PySem.W.Fast.tw1236512721686543875 : Nat := 0
def PySem.W.Fast.tw1970994878027270185 : Nat := 0
def PySem.W.Fast.tw14763730900994256453 : Nat := 0
def PySem.W.Fast.tw12208469471018136274 : Nat := 0
def PySem.W.Fast.tw13920496475070112975 : Nat := 0
def PySem.W.Fast.tw16536846479167819325 : Nat := 0
def PySem.W.Fast.tw4653977825704685781 : Nat := 0
def PySem.W.Fast.tw826132396513217911 : Nat := 0
def PySem.W.Fast.tw3226874965761087091 : Nat := 0
def PySem.W.Fast.tw11860756922770056856 : Nat := 0
def PySem.W.Fast.tw15575411137818207772 : Nat := 0
def PySem.W.Fast.tw12429160693160960369 : Nat := 0
def PySem.W.Fast.tw13264810269534261011 : Nat := 0
def PySem.W.Fast.tw18095787048785148167 : Nat := 0
def PySem.W.Fast.tw11956676367647527996 : Nat := 0
def PySem.W.Fast.tw16499289074863767866 : Nat := 0
def PySem.W.Fast.tw14965451991920591953 : Nat := 0
def PySem.W.Fast.tw15033750239776436183 : Nat := 0
def PySem.W.Fast.tw13519736916854553132 : Nat := 0
def PySem.W.Fast.tw17088369518729554767 : Nat := 0
def PySem.W.Fast.tw16508076242047620355 : Nat := 0
def PySem.W.Fast.tw8957898686600662195 : Nat := 0
def PySem.W.Fast.tw269725976741355800 : Nat := 0
def PySem.W.Fast.tw2195866455993777612 : Nat := 0
def PySem.W.Fast.tw10766994910712392402 : Nat := 0
def PySem.W.Fast.tw17775794533876607119 : Nat := 0
def PySem.W.Fast.tw9915710393066069148 : Nat := 0
def PySem.W.Fast.tw6569637117928727057 : Nat := 0
def PySem.W.Fast.tw17211816937278733732 : Nat := 0
def PySem.W.Fast.tw2964414913381460343 : Nat := 0
def PySem.W.Fast.tw14044728728373943324 : Nat := 0
def PySem.W.Fast.tw12710843519362565651 : Nat := 0
def PySem.W.Fast.tw14401170098173911111 : Nat := 0
def PySem.W.Fast.tw10250983423419279308 : Nat := 0
def PySem.W.Fast.tw2392614644526028309 : Nat := 0
def PySem.W.Fast.tw7760822752729944860 : Nat := 0
def PySem.W.Fast.tw2010500395564650047 : Nat := 0
def PySem.W.Fast.tw7364153557330394169 : Nat := 0
def PySem.W.Fast.tw10679449005391088966 : Nat := 0
def PySem.W.Fast.tw4453248323366902125 : Nat := 0
def PySem.W.Fast.tw5592364990886556125 : Nat := 0
def PySem.W.Fast.tw18366725196497586254 : Nat := 0
def PySem.W.Fast.tw523339761966109736 : Nat := 0
def PySem.W.Fast.tw437087356051723891 : Nat := 0
def PySem.W.Fast.tw606158516471146304 : Nat := 0
def PySem.W.Fast.tw8687702562257102343 : Nat := 0
def PySem.W.Fast.tw17986434249883189638 : Nat := 0
def PySem.W.Fast.tw7550897060406984251 : Nat := 0
def PySem.W.Fast.tw12865486965921711417 : Nat := 0
def PySem.W.Fast.tw6562043774273043340 : Nat := 0
def PySem.W.Fast.tw16855729722374225690 : Nat := 0
def PySem.W.Fast.tw14577116674531426734 : Nat := 0
def PySem.W.Fast.tw1441787246077597521 : Nat := 0
def PySem.W.Fast.tw5084912874038906284 : Nat := 0
def PySem.W.Fast.tw6259914595723558802 : Nat := 0
def PySem.W.Fast.tw17899415953963743732 : Nat := 0
def PySem.W.Fast.tw13676987928699895008 : Nat := 0
def PySem.W.Fast.tw14642574932023041755 : Nat := 0
def PySem.W.Fast.tw6119898523786397493 : Nat := 0
def PySem.W.Fast.tw4296346487177127716 : Nat := 0
def PySem.W.Fast.tw7960942830437276933 : Nat := 0
def PySem.W.Fast.tw12470961574518304755 : Nat := 0
def PySem.W.Fast.tw1835119297748338222 : Nat := 0
def PySem.W.Fast.tw3837131792547060192 : Nat := 0
def PySem.W.Fast.tw11664908998578881403 : Nat := 0
def PySem.W.Fast.tw16381877753165933266 : Nat := 0
def PySem.W.Fast.tw1685784662594848269 : Nat := 0
def PySem.W.Fast.tw9563222231516834224 : Nat := 0
def PySem.W.Fast.tw14464223075833103801 : Nat := 0
def PySem.W.Fast.tw1540691839065471537 : Nat := 0
def PySem.W.Fast.tw12277791545685585034 : Nat := 0
def PySem.W.Fast.tw11535068889042538230 : Nat := 0
def PySem.W.Fast.tw17252669020713509121 : Nat := 0
def PySem.W.Fast.tw8630997698273379703 : Nat := 0
def PySem.W.Fast.tw11885169804514570360 : Nat := 0
def PySem.W.Fast.tw14605851200719661077 : Nat := 0
def PySem.W.Fast.tw3441115021400686351 : Nat := 0
def PySem.W.Fast.tw2661657522800728489 : Nat := 0
def PySem.W.Fast.tw17300138378316183172 : Nat := 0
def PySem.W.Fast.tw5413843384031679109 : Nat := 0
def PySem.W.Fast.tw3948706419716358851 : Nat := 0
def PySem.W.Fast.tw14563606629498355351 : Nat := 0
def PySem.W.Fast.tw17163510776839479204 : Nat := 0
def PySem.W.Fast.tw2001886361320203809 : Nat := 0
def PySem.W.Fast.tw7390025366901574380 : Nat := 0
def PySem.W.Fast.tw12901807518599646359 : Nat := 0
def PySem.W.Fast.tw14079155660639285084 : Nat := 0
def PySem.W.Fast.tw1173429484612908147 : Nat := 0
def PySem.W.Fast.tw10930055592159314223 : Nat := 0
def PySem.W.Fast.tw16007956032222230454 : Nat := 0
def PySem.W.Fast.tw13455343759559038357 : Nat := 0
def PySem.W.Fast.tw10955873611979221155 : Nat := 0
def PySem.W.Fast.tw9401832041261302003 : Nat := 0
def PySem.W.Fast.tw1068383259089937266 : Nat := 0
def PySem.W.Fast.tw18206927217862139872 : Nat := 0
def PySem.W.Fast.tw9512944556050700568 : Nat := 0
def PySem.W.Fast.tw6768213387369194022 : Nat := 0
def PySem.W.Fast.tw10101137704276439025 : Nat := 0
def PySem.W.Fast.tw6095902993147710627 : Nat := 0
def PySem.W.Fast.tw14413328171515085003 : Nat := 0
def PySem.W.Fast.tw968215286749908350 : Nat := 0
def PySem.W.Fast.tw6789867944731571462 : Nat := 0
def PySem.W.Fast.tw1243789789441987479 : Nat := 0
def PySem.W.Fast.tw7822305326487765707 : Nat := 0
def PySem.W.Fast.tw17895438366567521012 : Nat := 0
def PySem.W.Fast.tw6817030677438470026 : Nat := 0
def PySem.W.Fast.tw13452510580950312120 : Nat := 0
def PySem.W.Fast.tw5148655780736855230 : Nat := 0
def PySem.W.Fast.tw14210991466143591829 : Nat := 0
def PySem.W.Fast.tw2942026883993068132 : Nat := 0
def PySem.W.Fast.tw1608401212751066289 : Nat := 0
def PySem.W.Fast.tw9496455224731272918 : Nat := 0
def PySem.W.Fast.tw2017718744262397774 : Nat := 0
def PySem.W.Fast.tw7866049289546728489 : Nat := 0
def PySem.W.Fast.tw17489246833855363899 : Nat := 0
def PySem.W.Fast.tw14486543851718709219 : Nat := 0
def PySem.W.Fast.tw15892320578742795257 : Nat := 0
def PySem.W.Fast.tw16890708054947273203 : Nat := 0
def PySem.W.Fast.tw66045857794464592 : Nat := 0
def PySem.W.Fast.tw8649210004928915025 : Nat := 0
def PySem.W.Fast.tw14957484992260919798 : Nat := 0
def PySem.W.Fast.tw6742946131546927233 : Nat := 0
def PySem.W.Fast.tw7452129413289353467 : Nat := 0
def PySem.W.Fast.tw14346053428082123249 : Nat := 0
def PySem.W.Fast.tw3750593962785640342 : Nat := 0
def PySem.W.Fast.tw17488238629523922657 : Nat := 0
def PySem.W.Fast.tw8043785950811939707 : Nat := 0
def PySem.W.Fast.tw7024341736589926116 : Nat := 0
def PySem.W.Fast.tw8185377137939424184 : Nat := 0
def PySem.W.Fast.tw577113244085247850 : Nat := 0
def PySem.W.Fast.tw14142887028875277419 : Nat := 0
def PySem.W.Fast.tw4788296324410200422 : Nat := 0
def PySem.W.Fast.tw4480494057187951024 : Nat := 0
def PySem.W.Fast.tw14210326281959604645 : Nat := 0
def PySem.W.Fast.tw15475476334206215939 : Nat := 0
def PySem.W.Fast.tw18032034513597722888 : Nat := 0
def PySem.W.Fast.tw1803619884130760301 : Nat := 0
def PySem.W.Fast.tw3893344667409962838 : Nat := 0
def PySem.W.Fast.tw838631073074496908 : Nat := 0
def PySem.W.Fast.tw16298638294884610665 : Nat := 0
def PySem.W.Fast.tw11937104085325623421 : Nat := 0
def PySem.W.Fast.tw14138393324771991119 : Nat := 0
def PySem.W.Fast.tw8448376274145299174 : Nat := 0
def PySem.W.Fast.tw18446198281228986085 : Nat := 0
def PySem.W.Fast.tw1935974648746548353 : Nat := 0
def PySem.W.Fast.tw3428082422862283361 : Nat := 0
def PySem.W.Fast.tw15876829718271015618 : Nat := 0
def PySem.W.Fast.tw4992243552452290171 : Nat := 0
def PySem.W.Fast.tw4474840217411543471 : Nat := 0
def PySem.W.Fast.tw9079839678040603556 : Nat := 0
def PySem.W.Fast.tw8610845671135851742 : Nat := 0
def PySem.W.Fast.tw15434648546768706637 : Nat := 0
def PySem.W.Fast.tw730609693797190284 : Nat := 0
def PySem.W.Fast.tw6603724343432958682 : Nat := 0
def PySem.W.Fast.tw12273767760863154515 : Nat := 0
def PySem.W.Fast.tw5850922241389511774 : Nat := 0
def PySem.W.Fast.tw10217309695456718375 : Nat := 0
def PySem.W.Fast.tw459632993850476477 : Nat := 0
def PySem.W.Fast.tw7272658860292737596 : Nat := 0
def PySem.W.Fast.tw18295440642897304173 : Nat := 0
def PySem.W.Fast.tw16807937406412758619 : Nat := 0
def PySem.W.Fast.tw7216124316610631018 : Nat := 0
def PySem.W.Fast.tw3727373198134474537 : Nat := 0
def PySem.W.Fast.tw7351245697924070852 : Nat := 0
def PySem.W.Fast.tw16354024853879568323 : Nat := 0
def PySem.W.Fast.tw16335838682444749780 : Nat := 0
def PySem.W.Fast.tw1263114819800128500 : Nat := 0
def PySem.W.Fast.tw9066787022812525992 : Nat := 0
def PySem.W.Fast.tw9051538307776146776 : Nat := 0
def PySem.W.Fast.tw4760157102359735032 : Nat := 0
def PySem.W.Fast.tw2345479120832790371 : Nat := 0
def PySem.W.Fast.tw767494850740043717 : Nat := 0
def PySem.W.Fast.tw17070273333084974944 : Nat := 0
def PySem.W.Fast.tw5174776953342452360 : Nat := 0
def PySem.W.Fast.tw8440520283211189190 : Nat := 0
def PySem.W.Fast.tw7680511739714034437 : Nat := 0
def PySem.W.Fast.tw7675662897380231764 : Nat := 0
def PySem.W.Fast.tw7138591852596467561 : Nat := 0
def PySem.W.Fast.tw16562481046203258655 : Nat := 0
def PySem.W.Fast.tw2542317152260429834 : Nat := 0
def PySem.W.Fast.tw8182539181848125465 : Nat := 0
def PySem.W.Fast.tw11072518775325293883 : Nat := 0
def PySem.W.Fast.tw10859823900911522009 : Nat := 0
def PySem.W.Fast.tw5563748373568193763 : Nat := 0
def PySem.W.Fast.tw18193204325981894335 : Nat := 0
def PySem.W.Fast.tw424639889715265954 : Nat := 0
def PySem.W.Fast.tw17548961257823973240 : Nat := 0
def PySem.W.Fast.tw6796668655307814187 : Nat := 0
def PySem.W.Fast.tw1922954174094243273 : Nat := 0
def PySem.W.Fast.tw14352755077581459380 : Nat := 0
def PySem.W.Fast.tw15223198839441411629 : Nat := 0
def PySem.W.Fast.tw5947791313597105429 : Nat := 0
def PySem.W.Fast.tw11967339136858568626 : Nat := 0
def PySem.W.Fast.tw7785474394013908961 : Nat := 0
def PySem.W.Fast.tw7627258965425389264 : Nat := 0
def PySem.W.Fast.tw12110168359692949671 : Nat := 0
def PySem.W.Fast.tw3544191144477428322 : Nat := 0
def PySem.W.Fast.tw16424426740400792383 : Nat := 0
def PySem.W.Fast.tw15626023773963935344 : Nat := 0
def PySem.W.Fast.tw923620150817283908 : Nat := 0
def PySem.W.Fast.tw5291619167029013683 : Nat := 0
def PySem.W.Fast.tw8298979667021151944 : Nat := 0
def PySem.W.Fast.tw11930164752004886376 : Nat := 0
def PySem.W.Fast.tw589653539675487986 : Nat := 0
def PySem.W.Fast.tw4686129069528392695 : Nat := 0
def PySem.W.Fast.tw9814325825245671603 : Nat := 0
def PySem.W.Fast.tw14537747170289397616 : Nat := 0
def PySem.W.Fast.tw2732256878941834087 : Nat := 0
def PySem.W.Fast.tw3233074116024316268 : Nat := 0
def PySem.W.Fast.tw4810483369058662233 : Nat := 0
def PySem.W.Fast.tw10061299851401614709 : Nat := 0
def PySem.W.Fast.tw13428285299783961051 : Nat := 0
def PySem.W.Fast.tw6147110499740937108 : Nat := 0
def PySem.W.Fast.tw760139012273147564 : Nat := 0
def PySem.W.Fast.tw7163760787618694799 : Nat := 0
def PySem.W.Fast.tw6358149921149154048 : Nat := 0
def PySem.W.Fast.tw9702898518167280399 : Nat := 0
def PySem.W.Fast.tw15467644369128423723 : Nat := 0
def PySem.W.Fast.tw16152890445576983532 : Nat := 0
def PySem.W.Fast.tw5722693332279228325 : Nat := 0
def PySem.W.Fast.tw11324392668996644411 : Nat := 0
def PySem.W.Fast.tw11357530810279137302 : Nat := 0
def PySem.W.Fast.tw6824476895566236526 : Nat := 0
def PySem.W.Fast.tw1342634461830209740 : Nat := 0
def PySem.W.Fast.tw10576435973287512532 : Nat := 0
def PySem.W.Fast.tw964099175956967479 : Nat := 0
def PySem.W.Fast.tw3217817886211734644 : Nat := 0
def PySem.W.Fast.tw16040714649286796762 : Nat := 0
def PySem.W.Fast.tw12967826864031270743 : Nat := 0
def PySem.W.Fast.tw12041315033811800718 : Nat := 0
def PySem.W.Fast.tw9256844912207530261 : Nat := 0
def PySem.W.Fast.tw6965754645421800863 : Nat := 0
def PySem.W.Fast.tw11062994529566869404 : Nat := 0
def PySem.W.Fast.tw595626413526693019 : Nat := 0
def PySem.W.Fast.tw8597889305477420840 : Nat := 0
def PySem.W.Fast.tw16990773310724696615 : Nat := 0
def PySem.W.Fast.tw6371380354367811321 : Nat := 0
def PySem.W.Fast.tw4016944079946816090 : Nat := 0
def PySem.W.Fast.tw6722180116678070385 : Nat := 0
def PySem.W.Fast.tw12602800091849895453 : Nat := 0
def PySem.W.Fast.tw16324263852560952222 : Nat := 0
def PySem.W.Fast.tw16586588746003604163 : Nat := 0
def PySem.W.Fast.tw8635143760061981494 : Nat := 0
def PySem.W.Fast.tw8717859374124055332 : Nat := 0
def PySem.W.Fast.tw14519579314325470273 : Nat := 0
def PySem.W.Fast.tw10614001256457479854 : Nat := 0
def PySem.W.Fast.tw11801961916000594052 : Nat := 0
def PySem.W.Fast.tw94606625946848963 : Nat := 0
def PySem.W.Fast.tw1744037933673247911 : Nat := 0
def PySem.W.Fast.tw8456765059266716200 : Nat := 0
def PySem.W.Fast.tw17066421961503795690 : Nat := 0
def PySem.W.Fast.tw14677160230375316881 : Nat := 0
def PySem.W.Fast.tw15363950270924289773 : Nat := 0
def PySem.W.Fast.tw2372337734639990969 : Nat := 0
def PySem.W.Fast.tw16409796682540695377 : Nat := 0
def PySem.W.Fast.tw6404155921661882237 : Nat := 0
def PySem.W.Fast.tw1609865177315247201 : Nat := 0
def PySem.W.Fast.tw5322715653079317158 : Nat := 0
def PySem.W.Fast.tw633545259881085583 : Nat := 0
def PySem.W.Fast.tw11960370359102975204 : Nat := 0
def PySem.W.Fast.tw12507103058780033183 : Nat := 0
def PySem.W.Fast.tw14199724297990787849 : Nat := 0
def PySem.W.Fast.tw7963881589640534452 : Nat := 0
def PySem.W.Fast.tw10838592467868056645 : Nat := 0
def PySem.W.Fast.tw17549460938727011875 : Nat := 0
def PySem.W.Fast.tw9395282107533889847 : Nat := 0
def PySem.W.Fast.tw3271887192229839075 : Nat := 0
def PySem.W.Fast.tw17230029781198214395 : Nat := 0
def PySem.W.Fast.tw11622631060783569615 : Nat := 0
def PySem.W.Fast.tw7062931029031749843 : Nat := 0
def PySem.W.Fast.tw17454763566273631326 : Nat := 0
def PySem.W.Fast.tw1451995751896759241 : Nat := 0
def PySem.W.Fast.tw7970473603465249234 : Nat := 0
def PySem.W.Fast.tw1923937799331138433 : Nat := 0
def PySem.W.Fast.tw14295655894630944456 : Nat := 0
def PySem.W.Fast.tw7529539326976274309 : Nat := 0
def PySem.W.Fast.tw2309983369313870485 : Nat := 0
def PySem.W.Fast.tw1055033200241090207 : Nat := 0
def PySem.W.Fast.tw18156073351085377591 : Nat := 0
def PySem.W.Fast.tw16035392715621111391 : Nat := 0
def PySem.W.Fast.tw12711937124861445845 : Nat := 0
def PySem.W.Fast.tw17914074477937710524 : Nat := 0
def PySem.W.Fast.tw12473136837574328761 : Nat := 0
def PySem.W.Fast.tw16891776265262647866 : Nat := 0
def PySem.W.Fast.tw3133229704058083816 : Nat := 0
def PySem.W.Fast.tw317080357534136000 : Nat := 0
def PySem.W.Fast.tw18008748718474209095 : Nat := 0
def PySem.W.Fast.tw11491098149495308577 : Nat := 0
def PySem.W.Fast.tw1055697036423187822 : Nat := 0
def PySem.W.Fast.tw9114021815152776860 : Nat := 0
def PySem.W.Fast.tw4891079224101443698 : Nat := 0
def PySem.W.Fast.tw356222845281609355 : Nat := 0
def PySem.W.Fast.tw12178572476386856747 : Nat := 0
def PySem.W.Fast.tw8696915452289420417 : Nat := 0
def PySem.W.Fast.tw12898559499024761563 : Nat := 0
def PySem.W.Fast.tw8162360006150164555 : Nat := 0
def PySem.W.Fast.tw17188847908669543545 : Nat := 0
def PySem.W.Fast.tw2009761993857551357 : Nat := 0
def PySem.W.Fast.tw16794984418111522610 : Nat := 0
def PySem.W.Fast.tw244078033198859389 : Nat := 0
def PySem.W.Fast.tw3735548838309004286 : Nat := 0
def PySem.W.Fast.tw8992099643206566909 : Nat := 0
def PySem.W.Fast.tw13203033631405899217 : Nat := 0
def PySem.W.Fast.tw14127657646991543600 : Nat := 0
def PySem.W.Fast.tw14122348294991517442 : Nat := 0
def PySem.W.Fast.tw11685065289334991073 : Nat := 0
def PySem.W.Fast.tw6743299382329695279 : Nat := 0
def PySem.W.Fast.tw15949743035796178444 : Nat := 0
def PySem.W.Fast.tw8349432820967462456 : Nat := 0
def PySem.W.Fast.tw9204729394625484542 : Nat := 0
def PySem.W.Fast.tw4187610490830845518 : Nat := 0
def PySem.W.Fast.tw4242728040848699212 : Nat := 0
def PySem.W.Fast.tw16652835389224472736 : Nat := 0
def PySem.W.Fast.tw8648811937184839334 : Nat := 0
def PySem.W.Fast.tw11724005748657685587 : Nat := 0
def PySem.W.Fast.tw8226342591388713782 : Nat := 0
def PySem.W.Fast.tw5107015521770974251 : Nat := 0
def PySem.W.Fast.tw3459110920407115882 : Nat := 0
def PySem.W.Fast.tw12320685578706254830 : Nat := 0
def PySem.W.Fast.tw9911657725155261807 : Nat := 0
def PySem.W.Fast.tw8355127223891041629 : Nat := 0
def PySem.W.Fast.tw1680361821502504154 : Nat := 0
def PySem.W.Fast.tw15396690520114612194 : Nat := 0
def PySem.W.Fast.tw17281130892287457239 : Nat := 0
def PySem.W.Fast.tw11224233723769885481 : Nat := 0
def PySem.W.Fast.tw2190026915249313494 : Nat := 0
def PySem.W.Fast.tw7142022011366008228 : Nat := 0
def PySem.W.Fast.tw6113148006495191058 : Nat := 0
def PySem.W.Fast.tw10393869896377965784 : Nat := 0
def PySem.W.Fast.tw16682919745586456699 : Nat := 0
def PySem.W.Fast.tw1561250100180282697 : Nat := 0
def PySem.W.Fast.tw2236113619331793525 : Nat := 0
def PySem.W.Fast.tw9384500139281168554 : Nat := 0
def PySem.W.Fast.tw16898229694188084638 : Nat := 0
def PySem.W.Fast.tw6316042141308742659 : Nat := 0
def PySem.W.Fast.tw8582061384057514874 : Nat := 0
def PySem.W.Fast.tw6989145211332139026 : Nat := 0
def PySem.W.Fast.tw16587825651935297812 : Nat := 0
def PySem.W.Fast.tw7227683248027281129 : Nat := 0
def PySem.W.Fast.tw15876247645751466333 : Nat := 0
def PySem.W.Fast.tw12046359247026155849 : Nat := 0
def PySem.W.Fast.tw17350421682756796164 : Nat := 0
def PySem.W.Fast.tw3399342825351497587 : Nat := 0
def PySem.W.Fast.tw5742136918659351813 : Nat := 0
def PySem.W.Fast.tw4706136640442616685 : Nat := 0
def PySem.W.Fast.tw3647840998004909248 : Nat := 0
def PySem.W.Fast.tw14453326665049159067 : Nat := 0
def PySem.W.Fast.tw13489671400877747184 : Nat := 0
def PySem.W.Fast.tw5968110532244236786 : Nat := 0
def PySem.W.Fast.tw15876722291729054370 : Nat := 0
def PySem.W.Fast.tw15372537127320483796 : Nat := 0
def PySem.W.Fast.tw11304306746197281818 : Nat := 0
def PySem.W.Fast.tw12470624255113160697 : Nat := 0
def PySem.W.Fast.tw17726136698411608711 : Nat := 0
def PySem.W.Fast.tw11627778540102219205 : Nat := 0
def PySem.W.Fast.tw5510383702446965240 : Nat := 0
def PySem.W.Fast.tw15947422129991499641 : Nat := 0
def PySem.W.Fast.tw8875521780747235341 : Nat := 0
def PySem.W.Fast.tw13135827067196578727 : Nat := 0
def PySem.W.Fast.tw17705598173434920441 : Nat := 0
def PySem.W.Fast.tw17256877082556773745 : Nat := 0
def PySem.W.Fast.tw1183853070251186817 : Nat := 0
def PySem.W.Fast.tw1870910422223929049 : Nat := 0
def PySem.W.Fast.tw14654154962417429946 : Nat := 0
def PySem.W.Fast.tw12756258173351180157 : Nat := 0
def PySem.W.Fast.tw598569152175922843 : Nat := 0
def PySem.W.Fast.tw3131532098989537039 : Nat := 0
def PySem.W.Fast.tw16795928747496183720 : Nat := 0
def PySem.W.Fast.tw4904534105297459199 : Nat := 0
def PySem.W.Fast.tw14205929616200098623 : Nat := 0
def PySem.W.Fast.tw5330257322262829909 : Nat := 0
def PySem.W.Fast.tw3155283354786796410 : Nat := 0
def PySem.W.Fast.tw1803205411164333053 : Nat := 0
def PySem.W.Fast.tw10878552940801868601 : Nat := 0
def PySem.W.Fast.tw11388942191641110443 : Nat := 0
def PySem.W.Fast.tw6109896509401060684 : Nat := 0
def PySem.W.Fast.tw14029106047147959790 : Nat := 0
def PySem.W.Fast.tw2466672256972529671 : Nat := 0
def PySem.W.Fast.tw9651837723757870235 : Nat := 0
def PySem.W.Fast.tw2860509661387227528 : Nat := 0
def PySem.W.Fast.tw3706640461605672580 : Nat := 0
def PySem.W.Fast.tw2243137187858561367 : Nat := 0
def PySem.W.Fast.tw12441851180206510354 : Nat := 0
def PySem.W.Fast.tw4154693761644658214 : Nat := 0
def PySem.W.Fast.tw10029039622040940723 : Nat := 0
def PySem.W.Fast.tw10011415793657191091 : Nat := 0
def PySem.W.Fast.tw1646611216061694762 : Nat := 0
def PySem.W.Fast.tw4257749490806242555 : Nat := 0
def PySem.W.Fast.tw738831779498990406 : Nat := 0
def PySem.W.Fast.tw3290229766619068265 : Nat := 0
def PySem.W.Fast.tw14894530764245062512 : Nat := 0
def PySem.W.Fast.tw5715298035040585985 : Nat := 0
def PySem.W.Fast.tw8558067364616142148 : Nat := 0
def PySem.W.Fast.tw12056365648750055581 : Nat := 0
def PySem.W.Fast.tw8586593867042794884 : Nat := 0
def PySem.W.Fast.tw17190493525655420773 : Nat := 0
def PySem.W.Fast.tw4473882606052864867 : Nat := 0
def PySem.W.Fast.tw6382869655584186734 : Nat := 0
def PySem.W.Fast.tw4703008077181916683 : Nat := 0
def PySem.W.Fast.tw16053059564969565965 : Nat := 0
def PySem.W.Fast.tw17106397374080587259 : Nat := 0
def PySem.W.Fast.tw5813631355875014676 : Nat := 0
def PySem.W.Fast.tw1210556567289319572 : Nat := 0
def PySem.W.Fast.tw7057533942121998085 : Nat := 0
def PySem.W.Fast.tw5720959775602225349 : Nat := 0
def PySem.W.Fast.tw17739282585050613150 : Nat := 0
def PySem.W.Fast.tw7316227064066211682 : Nat := 0
def PySem.W.Fast.tw12107851563883454840 : Nat := 0
def PySem.W.Fast.tw12830380257674040228 : Nat := 0
def PySem.W.Fast.tw7475148103187690069 : Nat := 0
def PySem.W.Fast.tw16739159994501808852 : Nat := 0
def PySem.W.Fast.tw14898337098155191992 : Nat := 0
def PySem.W.Fast.tw6353935202386351045 : Nat := 0
def PySem.W.Fast.tw3412100619393387803 : Nat := 0
def PySem.W.Fast.tw12783802882870958597 : Nat := 0
def PySem.W.Fast.tw15097666733448975470 : Nat := 0
def PySem.W.Fast.tw10671575876940682456 : Nat := 0
def PySem.W.Fast.tw8358089544406107815 : Nat := 0
def PySem.W.Fast.tw7430846658525095042 : Nat := 0
def PySem.W.Fast.tw6224568743954731327 : Nat := 0
def PySem.W.Fast.tw10195129645155299172 : Nat := 0
def PySem.W.Fast.tw4589240126769647194 : Nat := 0
def PySem.W.Fast.tw14242099467632124336 : Nat := 0
def PySem.W.Fast.tw3050438521991236066 : Nat := 0
def PySem.W.Fast.tw8507407809668345329 : Nat := 0
def PySem.W.Fast.tw12375174599523205313 : Nat := 0
def PySem.W.Fast.tw15770287907428281925 : Nat := 0
def PySem.W.Fast.tw4403785884659682465 : Nat := 0
def PySem.W.Fast.tw10803006654377303705 : Nat := 0
def PySem.W.Fast.tw8238739629948401738 : Nat := 0
def PySem.W.Fast.tw7070252933822811618 : Nat := 0
def PySem.W.Fast.tw1281041192613707635 : Nat := 0
def PySem.W.Fast.tw13186668974245833940 : Nat := 0
def PySem.W.Fast.tw6746308292528566189 : Nat := 0
def PySem.W.Fast.tw4755745427077980922 : Nat := 0
def PySem.W.Fast.tw14459192888281162577 : Nat := 0
def PySem.W.Fast.tw5709537146583131479 : Nat := 0
def PySem.W.Fast.tw3490587245088846379 : Nat := 0
def PySem.W.Fast.tw9163122839911892000 : Nat := 0
def PySem.W.Fast.tw3052759060796952459 : Nat := 0
def PySem.W.Fast.tw2674063379383473048 : Nat := 0
def PySem.W.Fast.tw11440364936377355459 : Nat := 0
def PySem.W.Fast.tw12814880372921499644 : Nat := 0
def PySem.W.Fast.tw9120732791697938047 : Nat := 0
def PySem.W.Fast.tw3846617462810644891 : Nat := 0
def PySem.W.Fast.tw14304105888024056286 : Nat := 0
def PySem.W.Fast.tw5109292100864282924 : Nat := 0
def PySem.W.Fast.tw3327868293869214561 : Nat := 0
def PySem.W.Fast.tw11961389741658250563 : Nat := 0
def PySem.W.Fast.tw6898066893269842217 : Nat := 0
def PySem.W.Fast.tw18417884975912934342 : Nat := 0
def PySem.W.Fast.tw8700229430119703784 : Nat := 0
def PySem.W.Fast.tw1917011697270066566 : Nat := 0
def PySem.W.Fast.tw2934415392479018651 : Nat := 0
def PySem.W.Fast.tw11748938998447038289 : Nat := 0
def PySem.W.Fast.tw10763700275022835432 : Nat := 0
def PySem.W.Fast.tw15366541838799910342 : Nat := 0
def PySem.W.Fast.tw17334307423359784618 : Nat := 0
def PySem.W.Fast.tw12690180822456721826 : Nat := 0
def PySem.W.Fast.tw8250057976163278203 : Nat := 0
def PySem.W.Fast.tw7033245390143958084 : Nat := 0
def PySem.W.Fast.tw10831219879959686570 : Nat := 0
def PySem.W.Fast.tw478755205357303940 : Nat := 0
def PySem.W.Fast.tw7135956954256151228 : Nat := 0
def PySem.W.Fast.tw17114843343172454179 : Nat := 0
def PySem.W.Fast.tw7708358886807278544 : Nat := 0
def PySem.W.Fast.tw9004573639285362483 : Nat := 0
def PySem.W.Fast.tw8017324666559369551 : Nat := 0
def PySem.W.Fast.tw11982385386418593243 : Nat := 0
def PySem.W.Fast.tw16234279324784013935 : Nat := 0
def PySem.W.Fast.tw17584662632050520283 : Nat := 0
def PySem.W.Fast.tw4213426225325785889 : Nat := 0
def PySem.W.Fast.tw4565414867359767476 : Nat := 0
def PySem.W.Fast.tw7350495376996419669 : Nat := 0
def PySem.W.Fast.tw14402179454324798758 : Nat := 0
def PySem.W.Fast.tw12256280037461772784 : Nat := 0
def PySem.W.Fast.tw10322762127813694716 : Nat := 0
def PySem.W.Fast.tw10159298967697897168 : Nat := 0
def PySem.W.Fast.tw12249543978424862958 : Nat := 0
def PySem.W.Fast.tw7769385973825107590 : Nat := 0
def PySem.W.Fast.tw4265046599383060763 : Nat := 0
def PySem.W.Fast.tw9019807844693714720 : Nat := 0
def PySem.W.Fast.tw2114124267879604611 : Nat := 0
def PySem.W.Fast.tw382818722320311024 : Nat := 0
def PySem.W.Fast.tw15307927456552492372 : Nat := 0
def PySem.W.Fast.tw11098139169031910991 : Nat := 0
def PySem.W.Fast.tw543675690135083572 : Nat := 0
def PySem.W.Fast.tw3952025517798203249 : Nat := 0
def PySem.W.Fast.tw9449443067462635918 : Nat := 0
def PySem.W.Fast.tw1021135068938800504 : Nat := 0
def PySem.W.Fast.tw1750155974517239075 : Nat := 0
def PySem.W.Fast.tw15473340377419374 : Nat := 0
def PySem.W.Fast.tw9610368141133835601 : Nat := 0
def PySem.W.Fast.tw4809183074669553482 : Nat := 0
def PySem.W.Fast.tw6543496147318861893 : Nat := 0
def PySem.W.Fast.tw5446478750119140821 : Nat := 0
def PySem.W.Fast.tw727559188963880079 : Nat := 0
def PySem.W.Fast.tw17216202578293522460 : Nat := 0
def PySem.W.Fast.tw10639661707535175553 : Nat := 0
def PySem.W.Fast.tw9023372435848533902 : Nat := 0
def PySem.W.Fast.tw5398607541014577264 : Nat := 0
def PySem.W.Fast.tw5050346465201008484 : Nat := 0
def PySem.W.Fast.tw15405449387925043820 : Nat := 0
def PySem.W.Fast.tw1767337378806885839 : Nat := 0
def PySem.W.Fast.tw6028553696739880254 : Nat := 0
def PySem.W.Fast.tw18343786145948993168 : Nat := 0
def PySem.W.Fast.tw13886827923975183117 : Nat := 0
def PySem.W.Fast.tw6906930039735288765 : Nat := 0
def PySem.W.Fast.tw5552221266196175648 : Nat := 0
def PySem.W.Fast.tw280495548289864476 : Nat := 0
def PySem.W.Fast.tw16818690986869439497 : Nat := 0
def PySem.W.Fast.tw17457451316426598618 : Nat := 0
def PySem.W.Fast.tw7801051384072673479 : Nat := 0
def PySem.W.Fast.tw4557163097237769522 : Nat := 0
def PySem.W.Fast.tw10465172382004579427 : Nat := 0
def PySem.W.Fast.tw2902210043717934981 : Nat := 0
def PySem.W.Fast.tw15472057543202002802 : Nat := 0
def PySem.W.Fast.tw7274314421597383232 : Nat := 0
def PySem.W.Fast.tw11745139131379758123 : Nat := 0
def PySem.W.Fast.tw11724354399481899919 : Nat := 0
def PySem.W.Fast.tw6987436606661203563 : Nat := 0
def PySem.W.Fast.tw6481010256157455531 : Nat := 0
def PySem.W.Fast.tw4448023185698320120 : Nat := 0
def PySem.W.Fast.tw1809065445689130976 : Nat := 0
def PySem.W.Fast.tw16614752137421093635 : Nat := 0
def PySem.W.Fast.tw14539386402115855723 : Nat := 0
def PySem.W.Fast.tw423153367237496018 : Nat := 0
def PySem.W.Fast.tw14519137841854664206 : Nat := 0
def PySem.W.Fast.tw10740956249795869337 : Nat := 0
def PySem.W.Fast.tw6502467675144832919 : Nat := 0
def PySem.W.Fast.tw8748357968944675674 : Nat := 0
def PySem.W.Fast.tw6481012979170887641 : Nat := 0
def PySem.W.Fast.tw2873214166916931977 : Nat := 0
def PySem.W.Fast.tw573603323216675312 : Nat := 0
def PySem.W.Fast.tw12838884624222122066 : Nat := 0
def PySem.W.Fast.tw5903493359305689425 : Nat := 0
def PySem.W.Fast.tw10410466775903861805 : Nat := 0
def PySem.W.Fast.tw9844319452201098038 : Nat := 0
def PySem.W.Fast.tw15160565679378763402 : Nat := 0
def PySem.W.Fast.tw5004562417137108339 : Nat := 0
def PySem.W.Fast.tw2991646462984973672 : Nat := 0
def PySem.W.Fast.tw13121522060420302721 : Nat := 0
def PySem.W.Fast.tw9290744073553974453 : Nat := 0
def PySem.W.Fast.tw7543205277666519166 : Nat := 0
def PySem.W.Fast.tw13779533883900725574 : Nat := 0
def PySem.W.Fast.tw9027482807992912366 : Nat := 0
def PySem.W.Fast.tw174123915613135913 : Nat := 0
def PySem.W.Fast.tw15177607401420626433 : Nat := 0
def PySem.W.Fast.tw12362852344653875936 : Nat := 0
def PySem.W.Fast.tw16737085847352154847 : Nat := 0
def PySem.W.Fast.tw13577679224041979695 : Nat := 0
def PySem.W.Fast.tw18128086581651315689 : Nat := 0
def PySem.W.Fast.tw14717060693669973631 : Nat := 0
def PySem.W.Fast.tw3168475447869375330 : Nat := 0
def PySem.W.Fast.tw13746186989289415368 : Nat := 0
def PySem.W.Fast.tw2010740436107920394 : Nat := 0
def PySem.W.Fast.tw3288767706314076139 : Nat := 0
def PySem.W.Fast.tw8555864669335820645 : Nat := 0
def PySem.W.Fast.tw11993940445412107813 : Nat := 0
def PySem.W.Fast.tw1983965326580256199 : Nat := 0
def PySem.W.Fast.tw14355563090165234847 : Nat := 0
def PySem.W.Fast.tw1183286428831865453 : Nat := 0
def PySem.W.Fast.tw15004683560144324579 : Nat := 0
def PySem.W.Fast.tw12063910653235437099 : Nat := 0
def PySem.W.Fast.tw13546277669208975211 : Nat := 0
def PySem.W.Fast.tw689101215022325447 : Nat := 0
def PySem.W.Fast.tw13909315775671884755 : Nat := 0
def PySem.W.Fast.tw11530776348366792949 : Nat := 0
def PySem.W.Fast.tw12051825245057266641 : Nat := 0
def PySem.W.Fast.tw6264774360204411244 : Nat := 0
def PySem.W.Fast.tw9920171572207262280 : Nat := 0
def PySem.W.Fast.tw9624642636955783321 : Nat := 0
def PySem.W.Fast.tw1254965310499443671 : Nat := 0
def PySem.W.Fast.tw11904105143643484290 : Nat := 0
def PySem.W.Fast.tw13543463036830979231 : Nat := 0
def PySem.W.Fast.tw13235553555999292019 : Nat := 0
def PySem.W.Fast.tw14042625499157838562 : Nat := 0
def PySem.W.Fast.tw10382886411116568501 : Nat := 0
def PySem.W.Fast.tw3867668974253346884 : Nat := 0
def PySem.W.Fast.tw11808414062292107243 : Nat := 0
def PySem.W.Fast.tw8725454786803252651 : Nat := 0
def PySem.W.Fast.tw992597221885826732 : Nat := 0
def PySem.W.Fast.tw6772467065573395827 : Nat := 0
def PySem.W.Fast.tw13057827645174903976 : Nat := 0
def PySem.W.Fast.tw2115260609790593950 : Nat := 0
def PySem.W.Fast.tw4623999477976824824 : Nat := 0
def PySem.W.Fast.tw644068896109205910 : Nat := 0
def PySem.W.Fast.tw10163686449260077151 : Nat := 0
def PySem.W.Fast.tw13509512312036437924 : Nat := 0
def PySem.W.Fast.tw12318033003524499867 : Nat := 0
def PySem.W.Fast.tw13096983360260139523 : Nat := 0
def PySem.W.Fast.tw7964509684162197074 : Nat := 0
def PySem.W.Fast.tw14343190417586250453 : Nat := 0
def PySem.W.Fast.tw2234890700328169404 : Nat := 0
def PySem.W.Fast.tw15730481388740730312 : Nat := 0
def PySem.W.Fast.tw10652041075612586345 : Nat := 0
def PySem.W.Fast.tw8743516288454619755 : Nat := 0
def PySem.W.Fast.tw2734556655276045822 : Nat := 0
def PySem.W.Fast.tw5358012152570135743 : Nat := 0
def PySem.W.Fast.tw17764286218888330066 : Nat := 0
def PySem.W.Fast.tw583258123229839914 : Nat := 0
def PySem.W.Fast.tw257447468784809035 : Nat := 0
def PySem.W.Fast.tw772167907111344122 : Nat := 0
def PySem.W.Fast.tw17003029979283903151 : Nat := 0
def PySem.W.Fast.tw10780133626316752086 : Nat := 0
def PySem.W.Fast.tw1311054956605924539 : Nat := 0
def PySem.W.Fast.tw16186346018706189824 : Nat := 0
def PySem.W.Fast.tw7935087320674237321 : Nat := 0
def PySem.W.Fast.tw10667924674987545150 : Nat := 0
def PySem.W.Fast.tw2761156343990130620 : Nat := 0
def PySem.W.Fast.tw3887675064633584619 : Nat := 0
def PySem.W.Fast.tw16225080458861159360 : Nat := 0
def PySem.W.Fast.tw14960123318442232764 : Nat := 0
def PySem.W.Fast.tw1971552796039300181 : Nat := 0
def PySem.W.Fast.tw8419886214362244115 : Nat := 0
def PySem.W.Fast.tw12726107237567927870 : Nat := 0
def PySem.W.Fast.tw7910956450528536386 : Nat := 0
def PySem.W.Fast.tw7833076763544258436 : Nat := 0
def PySem.W.Fast.tw14393006556900274246 : Nat := 0
def PySem.W.Fast.tw5051352756948670540 : Nat := 0
def PySem.W.Fast.tw701050944034502183 : Nat := 0
def PySem.W.Fast.tw11835898957982513188 : Nat := 0
def PySem.W.Fast.tw16165307205829927470 : Nat := 0
def PySem.W.Fast.tw10397968941580972010 : Nat := 0
def PySem.W.Fast.tw555464903933580963 : Nat := 0
def PySem.W.Fast.tw12967620086468608781 : Nat := 0
def PySem.W.Fast.tw18370203235740623313 : Nat := 0
def PySem.W.Fast.tw11648945287160107385 : Nat := 0
def PySem.W.Fast.tw954342464329545105 : Nat := 0
def PySem.W.Fast.tw11569694699031744728 : Nat := 0
def PySem.W.Fast.tw126470379712560290 : Nat := 0
def PySem.W.Fast.tw11720736432942516128 : Nat := 0
def PySem.W.Fast.tw12552753240984014047 : Nat := 0
def PySem.W.Fast.tw9783163416349296635 : Nat := 0
def PySem.W.Fast.tw12381873074785237896 : Nat := 0
def PySem.W.Fast.tw9850760223210753986 : Nat := 0
def PySem.W.Fast.tw15577278402392039792 : Nat := 0
def PySem.W.Fast.tw10698220951407976350 : Nat := 0
def PySem.W.Fast.tw1612101515594869028 : Nat := 0
def PySem.W.Fast.tw8542698900833830802 : Nat := 0
def PySem.W.Fast.tw10292431194223911422 : Nat := 0
def PySem.W.Fast.tw15987206092043364985 : Nat := 0
def PySem.W.Fast.tw5271300030681255768 : Nat := 0
def PySem.W.Fast.tw11307964807534010861 : Nat := 0
def PySem.W.Fast.tw3207512206932363579 : Nat := 0
def PySem.W.Fast.tw15217292826518664852 : Nat := 0
def PySem.W.Fast.tw12333248747289734394 : Nat := 0
def PySem.W.Fast.tw7650137474748977975 : Nat := 0
def PySem.W.Fast.tw7989361460499798821 : Nat := 0
def PySem.W.Fast.tw5534064279056445750 : Nat := 0
def PySem.W.Fast.tw7811492639073754936 : Nat := 0
def PySem.W.Fast.tw10247473509242760233 : Nat := 0
def PySem.W.Fast.tw16115669155056497333 : Nat := 0
def PySem.W.Fast.tw14600584219356143854 : Nat := 0
def PySem.W.Fast.tw18115148699438141199 : Nat := 0
def PySem.W.Fast.tw10714772961755327339 : Nat := 0
def PySem.W.Fast.tw14592031364812565685 : Nat := 0
def PySem.W.Fast.tw4953142805778688123 : Nat := 0
def PySem.W.Fast.tw11066594421014010356 : Nat := 0
def PySem.W.Fast.tw6984151608761269515 : Nat := 0
def PySem.W.Fast.tw647263566336773636 : Nat := 0
def PySem.W.Fast.tw17631103044445889228 : Nat := 0
def PySem.W.Fast.tw11622891232577396243 : Nat := 0
def PySem.W.Fast.tw7705458435321443581 : Nat := 0
def PySem.W.Fast.tw16614095598276165244 : Nat := 0
def PySem.W.Fast.tw8597931691806317150 : Nat := 0
def PySem.W.Fast.tw7328979252651386610 : Nat := 0
def PySem.W.Fast.tw6671352457688766684 : Nat := 0
def PySem.W.Fast.tw18119220783668779043 : Nat := 0
def PySem.W.Fast.tw1138459040284179837 : Nat := 0
def PySem.W.Fast.tw5020979812787278122 : Nat := 0
def PySem.W.Fast.tw12853431260712416514 : Nat := 0
def PySem.W.Fast.tw12525126597587354862 : Nat := 0
def PySem.W.Fast.tw1275396511862830847 : Nat := 0
def PySem.W.Fast.tw14264801380500565108 : Nat := 0
def PySem.W.Fast.tw12275838692811267436 : Nat := 0
def PySem.W.Fast.tw7756145693656814126 : Nat := 0
def PySem.W.Fast.tw5155565749924544182 : Nat := 0
def PySem.W.Fast.tw14014041764113232017 : Nat := 0
def PySem.W.Fast.tw1478472547027293694 : Nat := 0
def PySem.W.Fast.tw6698095495207084147 : Nat := 0
def PySem.W.Fast.tw5178398731843439622 : Nat := 0
def PySem.W.Fast.tw4289838402835575570 : Nat := 0
def PySem.W.Fast.tw11192461667740581308 : Nat := 0
def PySem.W.Fast.tw13513892576920376503 : Nat := 0
def PySem.W.Fast.tw10389482309883821933 : Nat := 0
def PySem.W.Fast.tw16255295287938341448 : Nat := 0
def PySem.W.Fast.tw2132422360260603287 : Nat := 0
def PySem.W.Fast.tw10859790624399337353 : Nat := 0
def PySem.W.Fast.tw13051503699308969113 : Nat := 0
def PySem.W.Fast.tw2347587491386082649 : Nat := 0
def PySem.W.Fast.tw5642858311736450515 : Nat := 0
def PySem.W.Fast.tw16722117047713368099 : Nat := 0
def PySem.W.Fast.tw4162256337808090110 : Nat := 0
def PySem.W.Fast.tw14246118025604501831 : Nat := 0
def PySem.W.Fast.tw11099931967219077859 : Nat := 0
def PySem.W.Fast.tw11691162961717498763 : Nat := 0
def PySem.W.Fast.tw16699280371378819710 : Nat := 0
def PySem.W.Fast.tw10049135284515690052 : Nat := 0
def PySem.W.Fast.tw12183996179883804002 : Nat := 0
def PySem.W.Fast.tw8828126707432365682 : Nat := 0
def PySem.W.Fast.tw12979204537760651176 : Nat := 0
def PySem.W.Fast.tw9487171857022773611 : Nat := 0
def PySem.W.Fast.tw9084350111794728143 : Nat := 0
def PySem.W.Fast.tw16434151225572802477 : Nat := 0
def PySem.W.Fast.tw1445449102805452516 : Nat := 0
def PySem.W.Fast.tw8228991992377523595 : Nat := 0
def PySem.W.Fast.tw221530175479866931 : Nat := 0
def PySem.W.Fast.tw7411159609136040418 : Nat := 0
def PySem.W.Fast.tw11505921831457359752 : Nat := 0
def PySem.W.Fast.tw7648109894535598627 : Nat := 0
def PySem.W.Fast.tw3258034869695969343 : Nat := 0
def PySem.W.Fast.tw4501928302356327687 : Nat := 0
def PySem.W.Fast.tw13781736206798192702 : Nat := 0
def PySem.W.Fast.tw13009644297720526609 : Nat := 0
def PySem.W.Fast.tw15689578691365641781 : Nat := 0
def PySem.W.Fast.tw10586602102085396993 : Nat := 0
def PySem.W.Fast.tw11815157507917437516 : Nat := 0
def PySem.W.Fast.tw10946741672511146224 : Nat := 0
def PySem.W.Fast.tw2144044867288452848 : Nat := 0
def PySem.W.Fast.tw5466291695403882290 : Nat := 0
def PySem.W.Fast.tw7393731048864577869 : Nat := 0
def PySem.W.Fast.tw11444673255960179043 : Nat := 0
def PySem.W.Fast.tw433095379752836318 : Nat := 0
def PySem.W.Fast.tw4397353143153307549 : Nat := 0
def PySem.W.Fast.tw5393857844627259751 : Nat := 0
def PySem.W.Fast.tw4506211997108948280 : Nat := 0
def PySem.W.Fast.tw14903832932273504108 : Nat := 0
def PySem.W.Fast.tw6558086637588873760 : Nat := 0
def PySem.W.Fast.tw15188114747906619423 : Nat := 0
def PySem.W.Fast.tw199174749456853176 : Nat := 0
def PySem.W.Fast.tw312831075750748831 : Nat := 0
def PySem.W.Fast.tw5706910122784915558 : Nat := 0
def PySem.W.Fast.tw6486327897289764568 : Nat := 0
def PySem.W.Fast.tw7777789389940835001 : Nat := 0
def PySem.W.Fast.tw9032384309618320116 : Nat := 0
def PySem.W.Fast.tw7687710171222712332 : Nat := 0
def PySem.W.Fast.tw9001688463288870001 : Nat := 0
def PySem.W.Fast.tw10424716472172929094 : Nat := 0
def PySem.W.Fast.tw4359843174090693195 : Nat := 0
def PySem.W.Fast.tw7202666747149466541 : Nat := 0
def PySem.W.Fast.tw3357228467183229685 : Nat := 0
def PySem.W.Fast.tw2851941085706028159 : Nat := 0
def PySem.W.Fast.tw8385412385509963540 : Nat := 0
def PySem.W.Fast.tw15539389049047271502 : Nat := 0
def PySem.W.Fast.tw7270466927716309232 : Nat := 0
def PySem.W.Fast.tw18079451225780340017 : Nat := 0
def PySem.W.Fast.tw4252998658609540888 : Nat := 0
def PySem.W.Fast.tw13365507734519937598 : Nat := 0
def PySem.W.Fast.tw16236114244529707992 : Nat := 0
def PySem.W.Fast.tw13053840411838255040 : Nat := 0
def PySem.W.Fast.tw15012620581761578413 : Nat := 0
def PySem.W.Fast.tw4274545281783617627 : Nat := 0
def PySem.W.Fast.tw15126105099030823040 : Nat := 0
def PySem.W.Fast.tw7449428829165433278 : Nat := 0
def PySem.W.Fast.tw13000881480419592534 : Nat := 0
def PySem.W.Fast.tw9572581808850833658 : Nat := 0
def PySem.W.Fast.tw18368792487249886415 : Nat := 0
def PySem.W.Fast.tw3750025838456737383 : Nat := 0
def PySem.W.Fast.tw4964411053187582494 : Nat := 0
def PySem.W.Fast.tw11954427043221769044 : Nat := 0
def PySem.W.Fast.tw13397061764954766490 : Nat := 0
def PySem.W.Fast.tw4930510868483283936 : Nat := 0
def PySem.W.Fast.tw10543097550246730720 : Nat := 0
def PySem.W.Fast.tw10928576050001052949 : Nat := 0
def PySem.W.Fast.tw1169786119828969097 : Nat := 0
def PySem.W.Fast.tw11055456168858698501 : Nat := 0
def PySem.W.Fast.tw16112480829725632433 : Nat := 0
def PySem.W.Fast.tw1931360228573349082 : Nat := 0
def PySem.W.Fast.tw166933257101256563 : Nat := 0
def PySem.W.Fast.tw15994100269944562160 : Nat := 0
def PySem.W.Fast.tw2929689495900684975 : Nat := 0
def PySem.W.Fast.tw16852304757932541917 : Nat := 0
def PySem.W.Fast.tw12369946454457653980 : Nat := 0
def PySem.W.Fast.tw496729963356131830 : Nat := 0
def PySem.W.Fast.tw6598060048426199560 : Nat := 0
def PySem.W.Fast.tw1585881668555317028 : Nat := 0
def PySem.W.Fast.tw5472665858585988953 : Nat := 0
def PySem.W.Fast.tw9966940848173032188 : Nat := 0
def PySem.W.Fast.tw12841417461444917149 : Nat := 0
def PySem.W.Fast.tw9885848133841888683 : Nat := 0
def PySem.W.Fast.tw18093831886313581474 : Nat := 0
def PySem.W.Fast.tw18000739505714051288 : Nat := 0
def PySem.W.Fast.tw11131227821004142395 : Nat := 0
def PySem.W.Fast.tw12726296796641788298 : Nat := 0
def PySem.W.Fast.tw16077505325872798122 : Nat := 0
def PySem.W.Fast.tw12532801715137553740 : Nat := 0
def PySem.W.Fast.tw6922728022109885000 : Nat := 0
def PySem.W.Fast.tw10845013918623097845 : Nat := 0
def PySem.W.Fast.tw14284821220373097149 : Nat := 0
def PySem.W.Fast.tw2695626204770827514 : Nat := 0
def PySem.W.Fast.tw12498343291365806964 : Nat := 0
def PySem.W.Fast.tw4967351245560700133 : Nat := 0
def PySem.W.Fast.tw2622405641667541054 : Nat := 0
def PySem.W.Fast.tw12092198851020164489 : Nat := 0
def PySem.W.Fast.tw9227430557803732417 : Nat := 0
def PySem.W.Fast.tw470423421181485725 : Nat := 0
def PySem.W.Fast.tw13927800267274142069 : Nat := 0
def PySem.W.Fast.tw8506875626183735494 : Nat := 0
def PySem.W.Fast.tw9309574103266479786 : Nat := 0
def PySem.W.Fast.tw12570160772758300109 : Nat := 0
def PySem.W.Fast.tw3050900451271117735 : Nat := 0
def PySem.W.Fast.tw1405318490482603020 : Nat := 0
def PySem.W.Fast.tw8062607599378381725 : Nat := 0
def PySem.W.Fast.tw16145248045550280820 : Nat := 0
def PySem.W.Fast.tw951888657060233136 : Nat := 0
def PySem.W.Fast.tw15204147429679261319 : Nat := 0
def PySem.W.Fast.tw6218783866257538331 : Nat := 0
def PySem.W.Fast.tw13970310653287832058 : Nat := 0
def PySem.W.Fast.tw9008099603571881485 : Nat := 0
def PySem.W.Fast.tw1368660138698580006 : Nat := 0
def PySem.W.Fast.tw6519335750962565320 : Nat := 0
def PySem.W.Fast.tw11121008010071075570 : Nat := 0
def PySem.W.Fast.tw3830501459938468338 : Nat := 0
def PySem.W.Fast.tw17738315647047099660 : Nat := 0
def PySem.W.Fast.tw14046812794832979892 : Nat := 0
open PySem PySem.W PyProof.Rows
set_option maxRecDepth 100000 in
set_option maxHeartbeats 0 in
theorem PySem.Challenge.cw_seatchains_k83_whole_true_claims_about_p_holds : PySem.Challenge.rw_seatchains_k83_whole_true_claims_about_p.Holds := by
  w_on; o_law; k_head; (case hw => w_witness2)
  k_fill
  refine Z.walkG (l := PySem.Challenge.rw_seatchains_k83_whole_true_claims_about_p) (n := 63) (k := 8) (x := "_law_script") rfl (by decide) rfl ⟨rfl, by decide, by decide⟩ (fun w h Y => PySem.W.kIn_of Y) ?F
  case F =>
    intro w mg fa h Y KX G hmg
    refine' ZK.law_mk KX G hmg ?g_SIZES ?kd_SIZES ?kl_SIZES ?ks_SIZES ?lo_SIZES ?v_SIZES_plan ?v_SIZES_no_plan ?v_SIZES_route ?v_SIZES_fixed ?v_SIZES_not_fixed ?v_SIZES_number ?v_SIZES_changes ?v_SIZES_no_seat ?g_JUDGES ?kd_JUDGES ?kl_JUDGES ?ks_JUDGES ?lo_JUDGES ?j_JUDGES_changes ?j_JUDGES_no_seat ?a_law_cell ?l_law_cell ?e_law_cell ?k_law_cell ?a_law_pool ?l_law_pool ?e_law_pool ?k_law_pool ?a_law_draw ?l_law_draw ?e_law_draw ?k_law_draw ?a_law_by_startS ?l_law_by_startS ?e_law_by_startS ?k_law_by_startS ?a_law_meet ?l_law_meet ?e_law_meet ?k_law_meet ?a_law_choices ?l_law_choices ?e_law_choices ?k_law_choices ?a_law_flat ?l_law_flat ?e_law_flat ?k_law_flat ?a_law_drawn ?l_law_drawn ?e_law_drawn ?k_law_drawn ?a_law_held ?l_law_held ?e_law_held ?k_law_held ?a_law_fewest ?l_law_fewest ?e_law_fewest ?k_law_fewest ?a_law_pairs ?l_law_pairs ?e_law_pairs ?k_law_pairs ?a_law_parts ?l_law_parts ?e_law_parts ?k_law_parts ?a_law_words ?l_law_words ?e_law_words ?k_law_words ?a_is_whole ?l_is_whole ?e_is_whole ?k_is_whole ?a_are_stations ?l_are_stations ?e_are_stations ?k_are_stations ?a_is_tuple_of ?l_is_tuple_of ?e_is_tuple_of ?k_is_tuple_of ?a_is_booked ?l_is_booked ?e_is_booked ?k_is_booked ?a_are_of_a_line ?l_are_of_a_line ?e_are_of_a_line ?k_are_of_a_line ?a_overlap ?l_overlap ?e_overlap ?k_overlap ?a_is_unoccupied ?l_is_unoccupied ?e_is_unoccupied ?k_is_unoccupied ?a_is_blocked ?l_is_blocked ?e_is_blocked ?k_is_blocked ?a_is_one_of ?l_is_one_of ?e_is_one_of ?k_is_one_of ?a_is_way ?l_is_way ?e_is_way ?k_is_way ?a_place_of ?l_place_of ?e_place_of ?k_place_of ?a_taken_before ?l_taken_before ?e_taken_before ?k_taken_before ?a_seats_given ?l_seats_given ?e_seats_given ?k_seats_given ?a_changes_holds ?l_changes_holds ?e_changes_holds ?k_changes_holds ?a_many_on ?l_many_on ?e_many_on ?k_many_on ?a_no_seat_holds ?l_no_seat_holds ?e_no_seat_holds ?k_no_seat_holds ?a_accepts ?l_accepts ?e_accepts ?k_accepts ?a_law_right ?l_law_right ?e_law_right ?k_law_right ?a_law ?l_law ?e_law ?k_law ?v_LETTERS ?v_MAX_SEATS ?v_MAX_TRIPS ?b_abs ?b_all ?b_any ?b_bool ?b_divmod ?b_enumerate ?b_int ?b_isinstance ?b_len ?b_min ?b_range ?b_sorted ?b_str ?b_tuple ?b_zip ?nl
    (case g_SIZES => k_is)
    (case kd_SIZES => k_is)
    (case kl_SIZES => exact ⟨⟨_, _, rfl, rfl⟩, ⟨_, _, rfl, rfl⟩, ⟨_, _, rfl, rfl⟩, ⟨_, _, rfl, rfl⟩, ⟨_, _, rfl, rfl⟩, ⟨_, _, rfl, rfl⟩, ⟨_, _, rfl, rfl⟩, ⟨_, _, rfl, rfl⟩, trivial⟩)
    (case ks_SIZES => exact ⟨⟨_, rfl⟩, ⟨_, rfl⟩, ⟨_, rfl⟩, ⟨_, rfl⟩, ⟨_, rfl⟩, ⟨_, rfl⟩, ⟨_, rfl⟩, ⟨_, rfl⟩, trivial⟩)
    (case lo_SIZES => rfl)
    (case v_SIZES_plan => k_is)
    (case v_SIZES_no_plan => k_is)
    (case v_SIZES_route => k_is)
    (case v_SIZES_fixed => k_is)
    (case v_SIZES_not_fixed => k_is)
    (case v_SIZES_number => k_is)
    (case v_SIZES_changes => k_is)
    (case v_SIZES_no_seat => k_is)
    (case g_JUDGES => k_is)
    (case kd_JUDGES => k_is)
    (case kl_JUDGES => exact ⟨⟨_, _, rfl, rfl⟩, ⟨_, _, rfl, rfl⟩, ⟨_, _, rfl, rfl⟩, ⟨_, _, rfl, rfl⟩, ⟨_, _, rfl, rfl⟩, ⟨_, _, rfl, rfl⟩, ⟨_, _, rfl, rfl⟩, ⟨_, _, rfl, rfl⟩, trivial⟩)
    (case ks_JUDGES => exact ⟨⟨_, rfl⟩, ⟨_, rfl⟩, ⟨_, rfl⟩, ⟨_, rfl⟩, ⟨_, rfl⟩, ⟨_, rfl⟩, ⟨_, rfl⟩, ⟨_, rfl⟩, trivial⟩)
    (case lo_JUDGES => rfl)
    (case j_JUDGES_changes => k_is)
    (case j_JUDGES_no_seat => k_is)
    (case a_law_cell => k_is)
    (case l_law_cell => k_is)
    (case e_law_cell => k_is)
    (case k_law_cell => k_is)
    (case a_law_pool => k_is)
    (case l_law_pool => k_is)
    (case e_law_pool => k_is)
    (case k_law_pool => k_is)
    (case a_law_draw => k_is)
    (case l_law_draw => k_is)
    (case e_law_draw => k_is)
    (case k_law_draw => k_is)
    (case a_law_by_startS => k_is)
    (case l_law_by_startS => k_is)
    (case e_law_by_startS => k_is)
    (case k_law_by_startS => k_is)
    (case a_law_meet => k_is)
    (case l_law_meet => k_is)
    (case e_law_meet => k_is)
    (case k_law_meet => k_is)
    (case a_law_choices => k_is)
    (case l_law_choices => k_is)
    (case e_law_choices => k_is)
    (case k_law_choices => k_is)
    (case a_law_flat => k_is)
    (case l_law_flat => k_is)
    (case e_law_flat => k_is)
    (case k_law_flat => k_is)
    (case a_law_drawn => k_is)
    (case l_law_drawn => k_is)
    (case e_law_drawn => k_is)
    (case k_law_drawn => k_is)
    (case a_law_held => k_is)
    (case l_law_held => k_is)
    (case e_law_held => k_is)
    (case k_law_held => k_is)
    (case a_law_fewest => k_is)
    (case l_law_fewest => k_is)
    (case e_law_fewest => k_is)
    (case k_law_fewest => k_is)
    (case a_law_pairs => k_is)
    (case l_law_pairs => k_is)
    (case e_law_pairs => k_is)
    (case k_law_pairs => k_is)
    (case a_law_parts => k_is)
    (case l_law_parts => k_is)
    (case e_law_parts => k_is)
    (case k_law_parts => k_is)
    (case a_law_words => k_is)
    (case l_law_words => k_is)
    (case e_law_words => k_is)
    (case k_law_words => k_is)
    (case a_is_whole => k_is)
    (case l_is_whole => k_is)
    (case e_is_whole => k_is)
    (case k_is_whole => k_is)
    (case a_are_stations => k_is)
    (case l_are_stations => k_is)
    (case e_are_stations => k_is)
    (case k_are_stations => k_is)
    (case a_is_tuple_of => k_is)
    (case l_is_tuple_of => k_is)
    (case e_is_tuple_of => k_is)
    (case k_is_tuple_of => k_is)
    (case a_is_booked => k_is)
    (case l_is_booked => k_is)
    (case e_is_booked => k_is)
    (case k_is_booked => k_is)
    (case a_are_of_a_line => k_is)
    (case l_are_of_a_line => k_is)
    (case e_are_of_a_line => k_is)
    (case k_are_of_a_line => k_is)
    (case a_overlap => k_is)
    (case l_overlap => k_is)
    (case e_overlap => k_is)
    (case k_overlap => k_is)
    (case a_is_unoccupied => k_is)
    (case l_is_unoccupied => k_is)
    (case e_is_unoccupied => k_is)
    (case k_is_unoccupied => k_is)
    (case a_is_blocked => k_is)
    (case l_is_blocked => k_is)
    (case e_is_blocked => k_is)
    (case k_is_blocked => k_is)
    (case a_is_one_of => k_is)
    (case l_is_one_of => k_is)
    (case e_is_one_of => k_is)
    (case k_is_one_of => k_is)
    (case a_is_way => k_is)
    (case l_is_way => k_is)
    (case e_is_way => k_is)
    (case k_is_way => k_is)
    (case a_place_of => k_is)
    (case l_place_of => k_is)
    (case e_place_of => k_is)
    (case k_place_of => k_is)
    (case a_taken_before => k_is)
    (case l_taken_before => k_is)
    (case e_taken_before => k_is)
    (case k_taken_before => k_is)
    (case a_seats_given => k_is)
    (case l_seats_given => k_is)
    (case e_seats_given => k_is)
    (case k_seats_given => k_is)
    (case a_changes_holds => k_is)
    (case l_changes_holds => k_is)
    (case e_changes_holds => k_is)
    (case k_changes_holds => k_is)
    (case a_many_on => k_is)
    (case l_many_on => k_is)
    (case e_many_on => k_is)
    (case k_many_on => k_is)
    (case a_no_seat_holds => k_is)
    (case l_no_seat_holds => k_is)
    (case e_no_seat_holds => k_is)
    (case k_no_seat_holds => k_is)
    (case a_accepts => k_is)
    (case l_accepts => k_is)
    (case e_accepts => k_is)
    (case k_accepts => k_is)
    (case a_law_right => k_is)
    (case l_law_right => k_is)
    (case e_law_right => k_is)
    (case k_law_right => k_is)
    (case a_law => k_is)
    (case l_law => k_is)
    (case e_law => k_is)
    (case k_law => k_is)
    (case v_LETTERS => k_is)
    (case v_MAX_SEATS => k_is)
    (case v_MAX_TRIPS => k_is)
    (case b_abs => k_is)
    (case b_all => k_is)
    (case b_any => k_is)
    (case b_bool => k_is)
    (case b_divmod => k_is)
    (case b_enumerate => k_is)
    (case b_int => k_is)
    (case b_isinstance => k_is)
    (case b_len => k_is)
    (case b_min => k_is)
    (case b_range => k_is)
    (case b_sorted => k_is)
    (case b_str => k_is)
    (case b_tuple => k_is)
    (case b_zip => k_is)
    (case nl => kernel_rfl)
