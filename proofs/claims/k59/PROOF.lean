import PyProof.Rows.All
import Wide.All
import OpenK.AllK
import Wide.FinOn
import HandS.ForMost
import HandS.WordsExc
import HandS.Defaults
import HandS.IsInst
import HandS.TupAny
import HandS.Wide
import HandS.ExcInit
import HandS.ExcField
import HandS.CallSlots
import HandS.TryMany
import HandS.Flow
import HandS.FStr
import HandS.Walk
import KE.GoesMore
import HandS.More
import PyProof.ReprRoads
import PyProof.ReprBulk
import HandS.SetFor
import HandS.Strs
import HandS.Dict
import HandS.TryOnly
import HandS.DeepEq
import HandS.DictComp
import PyProof.NeKinds
import PySem.Challenge.RW_spreadhues_k59_whole_sights_checked
set_option Elab.async false
set_option linter.all false
set_option maxRecDepth 100000
/-! Dm: Python over plain data. A def's value is told by a Lean function over D; the judgements Ev, Sl below say that a reading does what that function says. -/
namespace Dm
open PySem PySem.Spec PyProof.Rows L2
abbrev Sl := List (Option V)

/-- plain data -/
inductive D where
  | non | bl (b : Bool) | int (i : Int) | str (x : Str)
  | lst (xs : List D) | tup (xs : List D) | obj (c : Nat) (fs : List D) | dct (kvs : List (Key × V))

/-- what is known of the classes: the written part; a class's address, its fields' names -/
structure Wo where
  K : PySem.W.Frag
  cl : Nat → Addr
  fn : Nat → List Str

mutual
/-- the value v stands for the data d -/
inductive Rp (Z : Wo) (H : Hp) : V → D → Prop
  | non : Rp Z H .non .non
  | bl (b : Bool) : Rp Z H (.bl b) (.bl b)
  | int (i : Int) : Rp Z H (.int i) (.int i)
  | str (x : Str) : Rp Z H (.str x) (.str x)
  | lst {a : Addr} {xs : List V} {ds : List D} : H a = some (.lst xs) → RpAll Z H xs ds → Rp Z H (.ref a) (.lst ds)
  | tup {a : Addr} {xs : List V} {ds : List D} : H a = some (.tup xs) → RpAll Z H xs ds → Rp Z H (.ref a) (.tup ds)
  | obj {a dx : Addr} {c : Nat} {xs : List V} {ds : List D} : H a = some (.ins (Z.cl c) dx ((Z.fn c).zip xs)) → (Z.fn c).length = xs.length → RpAll Z H xs ds → Rp Z H (.ref a) (.obj c ds)
  | dct {a : Addr} {kvs : List (Key × V)} : H a = some (.dK kvs) → Rp Z H (.ref a) (.dct kvs)
inductive RpAll (Z : Wo) (H : Hp) : List V → List D → Prop
  | nil : RpAll Z H [] []
  | cons {v : V} {vs : List V} {d : D} {ds : List D} : Rp Z H v d → RpAll Z H vs ds → RpAll Z H (v :: vs) (d :: ds)
end
mutual
theorem Rp.mono {Z : Wo} {H H' : Hp} (e : Same H H') : ∀ {v : V} {d : D}, Rp Z H v d → Rp Z H' v d
  | _, _, .non => .non
  | _, _, .bl b => .bl b
  | _, _, .int i => .int i
  | _, _, .str x => .str x
  | _, _, .lst h r => .lst (e _ _ h) (RpAll.mono e r)
  | _, _, .tup h r => .tup (e _ _ h) (RpAll.mono e r)
  | _, _, .obj h l r => .obj (e _ _ h) l (RpAll.mono e r)
  | _, _, .dct h => .dct (e _ _ h)
theorem RpAll.mono {Z : Wo} {H H' : Hp} (e : Same H H') : ∀ {vs : List V} {ds : List D}, RpAll Z H vs ds → RpAll Z H' vs ds
  | _, _, .nil => .nil
  | _, _, .cons h r => .cons (Rp.mono e h) (RpAll.mono e r)
end
section
variable {Z : Wo} {H : Hp}
theorem RpAll.length : ∀ {vs : List V} {ds : List D}, RpAll Z H vs ds → vs.length = ds.length
  | _, _, .nil => rfl
  | _, _, .cons _ r => congrArg Nat.succ r.length
theorem RpAll.get : ∀ {vs : List V} {ds : List D} {i : Nat} {d : D}, RpAll Z H vs ds → ds[i]? = some d → ∃ v, vs[i]? = some v ∧ Rp Z H v d
  | _, _, _, _, .nil, e => by simp at e
  | _, _, 0, _, .cons h _, e => by
    simp at e
    subst e
    exact ⟨_, rfl, h⟩
  | _, _, i + 1, _, .cons _ r, e => by
    obtain ⟨v, q, z⟩ := RpAll.get (i := i) r (by simpa using e)
    exact ⟨v, by simpa using q, z⟩
theorem RpAll.getV : ∀ {vs : List V} {ds : List D} {i : Nat} {v : V}, RpAll Z H vs ds → vs[i]? = some v → ∃ d, ds[i]? = some d ∧ Rp Z H v d
  | _, _, _, _, .nil, e => by simp at e
  | _, _, 0, _, .cons h _, e => by
    simp at e
    subst e
    exact ⟨_, rfl, h⟩
  | _, _, i + 1, _, .cons _ r, e => by
    obtain ⟨v, q, z⟩ := RpAll.getV (i := i) r (by simpa using e)
    exact ⟨v, by simpa using q, z⟩
theorem RpAll.append : ∀ {xs ys : List V} {ds es : List D}, RpAll Z H xs ds → RpAll Z H ys es → RpAll Z H (xs ++ ys) (ds ++ es)
  | _, _, _, _, .nil, s => s
  | _, _, _, _, .cons h r, s => .cons h (RpAll.append r s)
theorem RpAll.take : ∀ (n : Nat) {xs : List V} {ds : List D}, RpAll Z H xs ds → RpAll Z H (xs.take n) (ds.take n)
  | 0, _, _, _ => .nil
  | _ + 1, _, _, .nil => .nil
  | n + 1, _, _, .cons h r => .cons h (RpAll.take n r)
theorem RpAll.drop : ∀ (n : Nat) {xs : List V} {ds : List D}, RpAll Z H xs ds → RpAll Z H (xs.drop n) (ds.drop n)
  | 0, _, _, r => r
  | _ + 1, _, _, .nil => .nil
  | n + 1, _, _, .cons _ r => RpAll.drop n r
theorem RpAll.set {v : V} {d : D} (h : Rp Z H v d) : ∀ (i : Nat) {xs : List V} {ds : List D}, RpAll Z H xs ds → RpAll Z H (xs.set i v) (ds.set i d)
  | _, _, _, .nil => .nil
  | 0, _, _, .cons _ r => .cons h r
  | i + 1, _, _, .cons q r => .cons q (RpAll.set h i r)
theorem RpAll.eraseIdx : ∀ (i : Nat) {xs : List V} {ds : List D}, RpAll Z H xs ds → RpAll Z H (xs.eraseIdx i) (ds.eraseIdx i)
  | _, _, _, .nil => .nil
  | 0, _, _, .cons _ r => r
  | i + 1, _, _, .cons q r => .cons q (RpAll.eraseIdx i r)
theorem RpAll.one {v : V} {d : D} (h : Rp Z H v d) : RpAll Z H [v] [d] := .cons h .nil
end

/-! ### what stands apart: the cells that are a def's own -/
abbrev Led := List (Addr × HO)
/-- G: what stays as it is; L: what may change; both stand in H -/
structure Wd (G : Hp) (L : Led) (H : Hp) : Prop where
  same : Same G H
  nd : (L.map Prod.fst).Nodup
  own : ∀ p ∈ L, H p.1 = some p.2 ∧ G p.1 = none

theorem same_new {H : Hp} {p : Addr} {o : HO} (h : H p = none) : Same H (upd H p o) := fun b x e => by
  rw [upd_ne (ne_of_none e h)]
  exact e
section
variable {G H : Hp} {L B : Led} {p : Addr} {o o' : HO}
theorem Wd.free (w : Wd G L H) (h : H p = none) : G p = none := w.same.free h
/-- a new thing that stays -/
theorem Wd.lay (w : Wd G L H) (h : H p = none) : Wd (upd G p o) L (upd H p o) where
  same := fun b x e => by
    by_cases hb : b = p
    · subst hb
      rw [upd_same] at e ⊢
      exact e
    · rw [upd_ne hb] at e ⊢
      exact w.same b x e
  nd := w.nd
  own := fun q hq => by
    obtain ⟨h1, h2⟩ := w.own q hq
    have e : q.1 ≠ p := ne_of_none h1 h
    rw [upd_ne e, upd_ne e]
    exact ⟨h1, h2⟩
theorem Wd.layS (w : Wd G L H) (h : H p = none) : Same G (upd G p o) := same_new (w.free h)
/-- a new thing that may change -/
theorem Wd.keep (w : Wd G L H) (h : H p = none) : Wd G ((p, o) :: L) (upd H p o) where
  same := fun b x e => by
    rw [upd_ne (ne_of_none (w.same b x e) h)]
    exact w.same b x e
  nd := by
    rw [List.map_cons, List.nodup_cons]
    refine ⟨fun hm => ?_, w.nd⟩
    obtain ⟨q, hq, e⟩ := List.mem_map.mp hm
    have z := (w.own q hq).1
    rw [e, h] at z
    cases z
  own := fun q hq => by
    rcases List.mem_cons.mp hq with e | hq
    · subst e
      exact ⟨upd_same, w.free h⟩
    · obtain ⟨h1, h2⟩ := w.own q hq
      rw [upd_ne (ne_of_none h1 h)]
      exact ⟨h1, h2⟩
/-- it stays from now on -/
theorem Wd.frz (w : Wd G ((p, o) :: L) H) : Wd (upd G p o) L H where
  same := fun b x e => by
    by_cases hb : b = p
    · subst hb
      rw [upd_same] at e
      cases e
      exact (w.own (b, o) List.mem_cons_self).1
    · rw [upd_ne hb] at e
      exact w.same b x e
  nd := (List.nodup_cons.mp (by simpa using w.nd)).2
  own := fun q hq => by
    obtain ⟨h1, h2⟩ := w.own q (List.mem_cons_of_mem _ hq)
    have nd : p ∉ L.map Prod.fst := (List.nodup_cons.mp (by simpa using w.nd)).1
    have e : q.1 ≠ p := fun z => nd (List.mem_map.mpr ⟨q, hq, z⟩)
    rw [upd_ne e]
    exact ⟨h1, h2⟩
theorem Wd.frzS (w : Wd G ((p, o) :: L) H) : Same G (upd G p o) := same_new (w.own (p, o) List.mem_cons_self).2
/-- fewer cells -/
theorem Wd.sub {L' : Led} (w : Wd G L H) (s : List.Sublist L' L) : Wd G L' H where
  same := w.same
  nd := (List.Sublist.map Prod.fst s).nodup w.nd
  own := fun q hq => w.own q (s.subset hq)
/-- one of them is changed -/
theorem Wd.put {L1 L2 : Led} (w : Wd G (L1 ++ (p, o) :: L2) H) : Wd G (L1 ++ (p, o') :: L2) (upd H p o') where
  same := fun b x e => by
    have hp := (w.own (p, o) (by simp)).2
    rw [upd_ne (ne_of_none e hp)]
    exact w.same b x e
  nd := by
    have h := w.nd
    simp only [List.map_append, List.map_cons] at h ⊢
    exact h
  own := fun q hq => by
    have nd := w.nd
    rw [List.map_append, List.map_cons] at nd
    have h2 := List.nodup_append.mp nd
    have n2 := List.nodup_cons.mp h2.2.1
    rcases List.mem_append.mp hq with h | h
    · have e : q.1 ≠ p := fun z => h2.2.2 q.1 (List.mem_map.mpr ⟨q, h, rfl⟩) p (List.mem_cons_self ..) z
      rw [upd_ne e]
      exact w.own q (List.mem_append_left _ h)
    · rcases List.mem_cons.mp h with e | h
      · subst e
        exact ⟨upd_same, (w.own (p, o) (by simp)).2⟩
      · have e : q.1 ≠ p := fun z => n2.1 (List.mem_map.mpr ⟨q, h, z⟩)
        rw [upd_ne e]
        exact w.own q (List.mem_append_right _ (List.mem_cons_of_mem _ h))
end

/-! ### the slots, told by data -/
inductive Cell where
  | U | P (d : D) | O (ds : List D) | A (a : Addr) (F : Hp → Prop) | Q (dss : List (List D))
abbrev Env := List Cell
/-- own lists in a row -/
inductive QAll (Z : Wo) (G : Hp) : List V → List (List D) → Led → Prop
  | nil : QAll Z G [] [] []
  | cons {b : Addr} {ys : List V} {es : List D} {vs : List V} {dss : List (List D)} {L : Led} : RpAll Z G ys es → QAll Z G vs dss L → QAll Z G (.ref b :: vs) (es :: dss) ((b, .lst ys) :: L)
theorem QAll.mono {Z : Wo} {G G' : Hp} (s : Same G G') : ∀ {vs : List V} {dss : List (List D)} {L : Led}, QAll Z G vs dss L → QAll Z G' vs dss L
  | _, _, _, .nil => .nil
  | _, _, _, .cons r q => .cons (r.mono s) (q.mono s)
/-- Q: an own list of own lists; U: nothing is known; P: it stays; O: a list of the def's own; A: the thing at a (the hand, an error that is caught), of which F is known -/
inductive Cells (Z : Wo) (G : Hp) : Env → Sl → Led → Prop
  | nil : Cells Z G [] [] []
  | U {e : Env} {σ : Sl} {L : Led} {x : Option V} : Cells Z G e σ L → Cells Z G (.U :: e) (x :: σ) L
  | P {e : Env} {σ : Sl} {L : Led} {v : V} {d : D} : Rp Z G v d → Cells Z G e σ L → Cells Z G (.P d :: e) (some v :: σ) L
  | O {e : Env} {σ : Sl} {L : Led} {p : Addr} {xs : List V} {ds : List D} : RpAll Z G xs ds → Cells Z G e σ L → Cells Z G (.O ds :: e) (some (.ref p) :: σ) ((p, .lst xs) :: L)
  | A {e : Env} {σ : Sl} {L : Led} {a : Addr} {F : Hp → Prop} : (∀ G', Same G G' → F G') → Cells Z G e σ L → Cells Z G (.A a F :: e) (some (.ref a) :: σ) L
  | Q {e : Env} {σ : Sl} {L Li : Led} {p : Addr} {xs : List V} {dss : List (List D)} : QAll Z G xs dss Li → Cells Z G e σ L → Cells Z G (.Q dss :: e) (some (.ref p) :: σ) ((p, .lst xs) :: (Li ++ L))
section
variable {Z : Wo} {G G' H : Hp} {L B : Led}
theorem Cells.mono (s : Same G G') : ∀ {e : Env} {σ : Sl} {L : Led}, Cells Z G e σ L → Cells Z G' e σ L
  | _, _, _, .nil => .nil
  | _, _, _, .U c => .U (c.mono s)
  | _, _, _, .P r c => .P (r.mono s) (c.mono s)
  | _, _, _, .O r c => .O (r.mono s) (c.mono s)
  | _, _, _, .A f c => .A (fun G2 s2 => f G2 (s.trans s2)) (c.mono s)
  | _, _, _, .Q q c => .Q (q.mono s) (c.mono s)
theorem Cells.var : ∀ {e : Env} {σ : Sl} {L : Led} {i : Nat} {d : D}, Cells Z G e σ L → e[i]? = some (.P d) → ∃ v, σ[i]? = some (some v) ∧ Rp Z G v d
  | _, _, _, _, _, .nil, h => by simp at h
  | _, _, _, 0, _, .U c, h => by simp at h
  | _, _, _, 0, _, .P r c, h => by
    simp at h
    subst h
    exact ⟨_, rfl, r⟩
  | _, _, _, 0, _, .O r c, h => by simp at h
  | _, _, _, 0, _, .A f c, h => by simp at h
  | _, _, _, i + 1, _, .U c, h => by simpa using c.var (i := i) (by simpa using h)
  | _, _, _, i + 1, _, .P r c, h => by simpa using c.var (i := i) (by simpa using h)
  | _, _, _, i + 1, _, .O r c, h => by simpa using c.var (i := i) (by simpa using h)
  | _, _, _, i + 1, _, .A f c, h => by simpa using c.var (i := i) (by simpa using h)
  | _, _, _, 0, _, .Q f c, h => by simp at h
  | _, _, _, i + 1, _, .Q f c, h => by simpa using c.var (i := i) (by simpa using h)
theorem Cells.hand : ∀ {e : Env} {σ : Sl} {L : Led} {i : Nat} {a : Addr} {F : Hp → Prop}, Cells Z G e σ L → e[i]? = some (.A a F) → σ[i]? = some (some (.ref a)) ∧ F G
  | _, _, _, _, _, _, .nil, h => by simp at h
  | _, _, _, 0, _, _, .U c, h => by simp at h
  | _, _, _, 0, _, _, .P r c, h => by simp at h
  | _, _, _, 0, _, _, .O r c, h => by simp at h
  | _, _, _, 0, _, _, .A f c, h => by
    simp at h
    obtain ⟨rfl, rfl⟩ := h
    exact ⟨rfl, f G (Same.refl _)⟩
  | _, _, _, i + 1, _, _, .U c, h => by simpa using c.hand (i := i) (by simpa using h)
  | _, _, _, i + 1, _, _, .P r c, h => by simpa using c.hand (i := i) (by simpa using h)
  | _, _, _, i + 1, _, _, .O r c, h => by simpa using c.hand (i := i) (by simpa using h)
  | _, _, _, i + 1, _, _, .A f c, h => by simpa using c.hand (i := i) (by simpa using h)
  | _, _, _, 0, _, _, .Q f c, h => by simp at h
  | _, _, _, i + 1, _, _, .Q f c, h => by simpa using c.hand (i := i) (by simpa using h)
/-- the own list in slot i: where it stands in the ledger; what a change of it makes -/
theorem Cells.own : ∀ {e : Env} {σ : Sl} {L : Led} {i : Nat} {ds : List D}, Cells Z G e σ L → e[i]? = some (.O ds) →
    ∃ (p : Addr) (xs : List V) (L1 L2 : Led), σ[i]? = some (some (.ref p)) ∧ L = L1 ++ (p, .lst xs) :: L2 ∧ RpAll Z G xs ds ∧
      ∀ G' ys es, Same G G' → RpAll Z G' ys es → Cells Z G' (e.set i (.O es)) σ (L1 ++ (p, .lst ys) :: L2)
  | _, _, _, _, _, .nil, h => by simp at h
  | _, _, _, 0, _, .U c, h => by simp at h
  | _, _, _, 0, _, .P r c, h => by simp at h
  | _, _, _, 0, _, .O r c, h => by
    simp at h
    subst h
    exact ⟨_, _, [], _, rfl, rfl, r, fun G' ys es s q => .O q (c.mono s)⟩
  | _, _, _, 0, _, .A f c, h => by simp at h
  | _, _, _, i + 1, _, .U c, h => by
    obtain ⟨p, xs, L1, L2, a1, a2, a3, a4⟩ := c.own (i := i) (by simpa using h)
    exact ⟨p, xs, L1, L2, by simpa using a1, a2, a3, fun G' ys es s q => .U (a4 G' ys es s q)⟩
  | _, _, _, i + 1, _, .P r c, h => by
    obtain ⟨p, xs, L1, L2, a1, a2, a3, a4⟩ := c.own (i := i) (by simpa using h)
    exact ⟨p, xs, L1, L2, by simpa using a1, a2, a3, fun G' ys es s q => .P (r.mono s) (a4 G' ys es s q)⟩
  | _, _, _, i + 1, _, .O (p := p0) (xs := xs0) r c, h => by
    obtain ⟨p, xs, L1, L2, a1, a2, a3, a4⟩ := c.own (i := i) (by simpa using h)
    exact ⟨p, xs, (p0, .lst xs0) :: L1, L2, by simpa using a1, by rw [a2]; rfl, a3, fun G' ys es s q => .O (r.mono s) (a4 G' ys es s q)⟩
  | _, _, _, i + 1, _, .A f c, h => by
    obtain ⟨p, xs, L1, L2, a1, a2, a3, a4⟩ := c.own (i := i) (by simpa using h)
    exact ⟨p, xs, L1, L2, by simpa using a1, a2, a3, fun G' ys es s q => .A (fun G2 s2 => f G2 (s.trans s2)) (a4 G' ys es s q)⟩
  | _, _, _, 0, _, .Q f c, h => by simp at h
  | _, _, _, i + 1, _, .Q (p := p0) (xs := xs0) (Li := Li) f c, h => by
    obtain ⟨p, xs, L1, L2, a1, a2, a3, a4⟩ := c.own (i := i) (by simpa using h)
    refine ⟨p, xs, (p0, .lst xs0) :: (Li ++ L1), L2, by simpa using a1, by rw [a2, List.cons_append, List.append_assoc], a3, fun G' ys es s q => ?_⟩
    rw [List.cons_append, List.append_assoc]
    exact .Q (f.mono s) (a4 G' ys es s q)
/-- slot i gets a value that stays; an own list that stood there is let go -/
theorem Cells.set {v : V} {d : D} (r : Rp Z G v d) : ∀ {e : Env} {σ : Sl} {L : Led} (i : Nat), Cells Z G e σ L → ∃ L', List.Sublist L' L ∧ Cells Z G (e.set i (.P d)) (σ.set i (some v)) L'
  | _, _, _, _, .nil => ⟨_, List.Sublist.refl _, .nil⟩
  | _, _, _, 0, .U c => ⟨_, List.Sublist.refl _, .P r c⟩
  | _, _, _, 0, .P q c => ⟨_, List.Sublist.refl _, .P r c⟩
  | _, _, _, 0, .O q c => ⟨_, List.sublist_cons_self _ _, .P r c⟩
  | _, _, _, 0, .A f c => ⟨_, List.Sublist.refl _, .P r c⟩
  | _, _, _, 0, .Q q c => ⟨_, (List.sublist_append_right _ _).cons _, .P r c⟩
  | _, _, _, i + 1, .Q q c => by
    obtain ⟨L', s, c'⟩ := c.set r i
    exact ⟨_, ((List.Sublist.refl _).append s).cons₂ _, .Q q c'⟩
  | _, _, _, i + 1, .U c => by
    obtain ⟨L', s, c'⟩ := c.set r i
    exact ⟨L', s, .U c'⟩
  | _, _, _, i + 1, .P q c => by
    obtain ⟨L', s, c'⟩ := c.set r i
    exact ⟨L', s, .P q c'⟩
  | _, _, _, i + 1, .O q c => by
    obtain ⟨L', s, c'⟩ := c.set r i
    exact ⟨_, s.cons₂ _, .O q c'⟩
  | _, _, _, i + 1, .A f c => by
    obtain ⟨L', s, c'⟩ := c.set r i
    exact ⟨L', s, .A f c'⟩
/-- slot i is forgotten, whatever it holds -/
theorem Cells.unset {x : Option V} : ∀ {e : Env} {σ : Sl} {L : Led} (i : Nat), Cells Z G e σ L → ∃ L', List.Sublist L' L ∧ Cells Z G (e.set i .U) (σ.set i x) L'
  | _, _, _, _, .nil => ⟨_, List.Sublist.refl _, .nil⟩
  | _, _, _, 0, .U c => ⟨_, List.Sublist.refl _, .U c⟩
  | _, _, _, 0, .P q c => ⟨_, List.Sublist.refl _, .U c⟩
  | _, _, _, 0, .O q c => ⟨_, List.sublist_cons_self _ _, .U c⟩
  | _, _, _, 0, .A f c => ⟨_, List.Sublist.refl _, .U c⟩
  | _, _, _, 0, .Q q c => ⟨_, (List.sublist_append_right _ _).cons _, .U c⟩
  | _, _, _, i + 1, .Q q c => by
    obtain ⟨L', s, c'⟩ := c.unset (x := x) i
    exact ⟨_, ((List.Sublist.refl _).append s).cons₂ _, .Q q c'⟩
  | _, _, _, i + 1, .U c => by
    obtain ⟨L', s, c'⟩ := c.unset (x := x) i
    exact ⟨L', s, .U c'⟩
  | _, _, _, i + 1, .P q c => by
    obtain ⟨L', s, c'⟩ := c.unset (x := x) i
    exact ⟨L', s, .P q c'⟩
  | _, _, _, i + 1, .O q c => by
    obtain ⟨L', s, c'⟩ := c.unset (x := x) i
    exact ⟨_, s.cons₂ _, .O q c'⟩
  | _, _, _, i + 1, .A f c => by
    obtain ⟨L', s, c'⟩ := c.unset (x := x) i
    exact ⟨L', s, .A f c'⟩
/-- less is known -/
inductive Wk : Env → Env → Prop
  | nil : Wk [] []
  | keep {c : Cell} {e f : Env} : Wk e f → Wk (c :: e) (c :: f)
  | drop {c : Cell} {e f : Env} : Wk e f → Wk (c :: e) (.U :: f)
theorem Wk.refl : ∀ e : Env, Wk e e
  | [] => .nil
  | _ :: e => .keep (Wk.refl e)
theorem Cells.weak : ∀ {e f : Env}, Wk e f → ∀ {σ : Sl} {L : Led}, Cells Z G e σ L → ∃ L', List.Sublist L' L ∧ Cells Z G f σ L'
  | _, _, .nil, _, _, c => ⟨_, List.Sublist.refl _, c⟩
  | _, _, .keep w, _, _, .U c => by
    obtain ⟨L', s, c'⟩ := c.weak w
    exact ⟨L', s, .U c'⟩
  | _, _, .keep w, _, _, .P q c => by
    obtain ⟨L', s, c'⟩ := c.weak w
    exact ⟨L', s, .P q c'⟩
  | _, _, .keep w, _, _, .O q c => by
    obtain ⟨L', s, c'⟩ := c.weak w
    exact ⟨_, s.cons₂ _, .O q c'⟩
  | _, _, .keep w, _, _, .A f c => by
    obtain ⟨L', s, c'⟩ := c.weak w
    exact ⟨L', s, .A f c'⟩
  | _, _, .keep w, _, _, .Q q c => by
    obtain ⟨L', s, c'⟩ := c.weak w
    exact ⟨_, ((List.Sublist.refl _).append s).cons₂ _, .Q q c'⟩
  | _, _, .drop w, _, _, .U c => by
    obtain ⟨L', s, c'⟩ := c.weak w
    exact ⟨L', s, .U c'⟩
  | _, _, .drop w, _, _, .P q c => by
    obtain ⟨L', s, c'⟩ := c.weak w
    exact ⟨L', s, .U c'⟩
  | _, _, .drop w, _, _, .O q c => by
    obtain ⟨L', s, c'⟩ := c.weak w
    exact ⟨L', s.cons _, .U c'⟩
  | _, _, .drop w, _, _, .A f c => by
    obtain ⟨L', s, c'⟩ := c.weak w
    exact ⟨L', s, .U c'⟩
  | _, _, .drop w, _, _, .Q q c => by
    obtain ⟨L', s, c'⟩ := c.weak w
    exact ⟨L', (s.trans (List.sublist_append_right _ _)).cons _, .U c'⟩
end
/-- the slots σ show ρ, L is the def's own; what is the caller's own, B, stands as it is told -/
def Ok (Z : Wo) (B : Led) (ρ : Env) (G : Hp) (σ : Sl) (L : Led) (H : Hp) : Prop := Cells Z G ρ σ L ∧ Wd G (L ++ B) H
section
variable {Z : Wo} {G G' H : Hp} {B L : Led} {ρ : Env} {σ : Sl}
theorem Ok.wd (o : Ok Z B ρ G σ L H) : Wd G B H := o.2.sub (List.sublist_append_right _ _)
theorem Ok.same (o : Ok Z B ρ G σ L H) : Same G H := o.2.same
theorem Ok.lay {p : Addr} {u : HO} (o : Ok Z B ρ G σ L H) (h : H p = none) : Same G (upd G p u) ∧ Ok Z B ρ (upd G p u) σ L (upd H p u) :=
  ⟨o.2.layS h, o.1.mono (o.2.layS h), o.2.lay h⟩
theorem Ok.weak {f : Env} (k : Wk ρ f) (o : Ok Z B ρ G σ L H) : ∃ L', Ok Z B f G σ L' H := by
  obtain ⟨L', s, c'⟩ := o.1.weak k
  exact ⟨L', c', o.2.sub (List.Sublist.append s (List.Sublist.refl _))⟩
theorem Ok.set {i : Nat} {v : V} {d : D} (o : Ok Z B ρ G σ L H) (r : Rp Z G v d) : ∃ L', Ok Z B (ρ.set i (.P d)) G (σ.set i (some v)) L' H := by
  obtain ⟨L', s, c'⟩ := o.1.set r i
  exact ⟨L', c', o.2.sub (List.Sublist.append s (List.Sublist.refl _))⟩
theorem Ok.unset {i : Nat} {x : Option V} (o : Ok Z B ρ G σ L H) : ∃ L', Ok Z B (ρ.set i .U) G (σ.set i x) L' H := by
  obtain ⟨L', s, c'⟩ := o.1.unset (x := x) i
  exact ⟨L', c', o.2.sub (List.Sublist.append s (List.Sublist.refl _))⟩
theorem Ok.own {i : Nat} {ds : List D} (o : Ok Z B ρ G σ L H) (h : ρ[i]? = some (.O ds)) : ∃ (p : Addr) (xs : List V) (L1 L2 : Led), σ[i]? = some (some (.ref p)) ∧ L = L1 ++ (p, .lst xs) :: L2 ∧ H p = some (.lst xs) ∧ RpAll Z G xs ds ∧
    ∀ G' ys es, Same G G' → RpAll Z G' ys es → Cells Z G' (ρ.set i (.O es)) σ (L1 ++ (p, .lst ys) :: L2) := by
  obtain ⟨c, w⟩ := o
  obtain ⟨p, xs, L1, L2, a1, a2, a3, a4⟩ := c.own h
  subst a2
  exact ⟨p, xs, L1, L2, a1, rfl, (w.own (p, .lst xs) (by simp)).1, a3, a4⟩
end
theorem Wd.perm {G H : Hp} {L L' : Led} (p : L'.Perm L) (w : Wd G L H) : Wd G L' H where
  same := w.same
  nd := (p.map Prod.fst).nodup_iff.mpr w.nd
  own := fun q hq => w.own q (p.mem_iff.mp hq)
end Dm

set_option Elab.async false
set_option linter.all false
set_option maxRecDepth 100000
namespace Dm
open PySem PySem.Spec PyProof.Rows L2

/-- what a run gives: nothing is said; an own error (its class, its fields); a value -/
inductive Rs (S α : Type) where
  | stuck | ex (c : Nat) (fs : List D) (s : S) | ok (a : α) (s : S)
abbrev MS (S α : Type) := S → Rs S α
section
variable {S α β γ : Type}
def ret (a : α) : MS S α := fun s => .ok a s
def stk : MS S α := fun _ => .stuck
def rse (c : Nat) (fs : List D) : MS S α := fun s => .ex c fs s
def Rs.go (r : Rs S α) (k : α → MS S β) : Rs S β := match r with
  | .stuck => .stuck
  | .ex c fs s => .ex c fs s
  | .ok a s => k a s
def bnd (m : MS S α) (k : α → MS S β) : MS S β := fun s => (m s).go k
def lft (o : Option α) : MS S α := match o with
  | none => stk
  | some a => ret a
theorem bnd_ret (a : α) (k : α → MS S β) : bnd (ret a) k = k a := rfl
theorem bnd_stk (k : α → MS S β) : bnd (stk : MS S α) k = stk := rfl
theorem bnd_rse (c : Nat) (fs : List D) (k : α → MS S β) : bnd (rse c fs : MS S α) k = rse c fs := rfl
theorem lft_some (a : α) : (lft (some a) : MS S α) = ret a := rfl
theorem lft_none : (lft (none : Option α) : MS S α) = stk := rfl
theorem bnd_bnd (m : MS S α) (k : α → MS S β) (l : β → MS S γ) : bnd (bnd m k) l = bnd m fun a => bnd (k a) l := by
  funext s
  show ((m s).go k).go l = (m s).go fun a => bnd (k a) l
  cases m s <;> rfl
theorem bnd_ite (b : Prop) [Decidable b] (m n : MS S α) (k : α → MS S β) : bnd (if b then m else n) k = if b then bnd m k else bnd n k := by
  by_cases h : b
  · rw [if_pos h, if_pos h]
  · rw [if_neg h, if_neg h]
end

/-- where a derivation stands: the classes; what the caller keeps of its own, by the state; what is wished of what is raised -/
structure Jc (S : Type) where
  Z : Wo
  lay : S → Led
  X : Value → Option Addr → Sl → Hp → Prop

section
variable {S : Type} (J : Jc S)
/-- an own error at dx's dict -/
def Out (ρ : Env) (σ : Sl) (L : Led) (G : Hp) (c : Nat) (fs : List D) (s : S) : Prop := ∀ dx vs G' H', Same G G' → Ok J.Z (J.lay s) ρ G' σ L H' → G' dx = some (.xd ((J.Z.fn c).zip vs)) → (J.Z.fn c).length = vs.length → RpAll J.Z G' vs fs → J.X (.ref (J.Z.cl c)) (some dx) σ H'
def Pst {α β : Type} (ρ : Env) (σ : Sl) (L : Led) (G : Hp) (R : Sl → Hp → β → α → Prop) (Q : β → Hp → Prop) : Rs S α → Prop
  | .stuck => False
  | .ex c fs s => Out J ρ σ L G c fs s
  | .ok a s => ∀ b G' H', Same G G' → Ok J.Z (J.lay s) ρ G' σ L H' → R σ G' b a → Q b H'
/-- t does what m says -/
def EvG {α β : Type} (R : Sl → Hp → β → α → Prop) (t : Sl → Hp → (β → Hp → Prop) → Prop) (ρ : Env) (m : MS S α) : Prop :=
  ∀ σ G s H L, Ok J.Z (J.lay s) ρ G σ L H → ∀ Q, Pst J ρ σ L G R Q (m s) → t σ H Q
def rP (_ : Sl) (G : Hp) (v : V) (d : D) : Prop := Rp J.Z G v d
def rA (_ : Sl) (G : Hp) (vs : List V) (ds : List D) : Prop := RpAll J.Z G vs ds
/-- it stays, or it is the own list of a slot -/
def rX (ρ : Env) (σ : Sl) (G : Hp) (v : V) (d : D) : Prop := Rp J.Z G v d ∨ ∃ (i : Nat) (ds : List D), ρ[i]? = some (.O ds) ∧ σ[i]? = some (some v) ∧ d = .lst ds
def rE {α : Type} (_ : Sl) (_ : Hp) (a b : α) : Prop := a = b
abbrev Ev (te : TE) (ρ : Env) (m : MS S D) : Prop := EvG J (rP J) te ρ m
abbrev EvX (te : TE) (ρ : Env) (m : MS S D) : Prop := EvG J (rX J ρ) te ρ m
abbrev EvA (ta : TA) (ρ : Env) (m : MS S (List D)) : Prop := EvG J (rA J) ta ρ m
abbrev EvT (tt : TT) (ρ : Env) (m : MS S Bool) : Prop := EvG J rE tt ρ m
abbrev EvO (to : TO) (ρ : Env) (m : MS S (Option Int)) : Prop := EvG J rE to ρ m
end
section
variable {S : Type} {J : Jc S} {α β γ δ : Type} {ρ : Env} {σ : Sl} {G G' H : Hp} {L : Led}
theorem Out.mono {c : Nat} {fs : List D} {s : S} (e : Same G G') (h : Out J ρ σ L G c fs s) : Out J ρ σ L G' c fs s := fun dx vs G2 H2 a b => h dx vs G2 H2 (e.trans a) b
theorem Pst.mono {R : Sl → Hp → β → α → Prop} {Q : β → Hp → Prop} (e : Same G G') : ∀ {r : Rs S α}, Pst J ρ σ L G R Q r → Pst J ρ σ L G' R Q r
  | .stuck, h => h
  | .ex _ _ _, h => Out.mono e h
  | .ok _ _, h => fun b G2 H2 a c => h b G2 H2 (e.trans a) c
theorem EvG.run {R1 : Sl → Hp → β → α → Prop} {R2 : Sl → Hp → δ → γ → Prop} {t : Sl → Hp → (β → Hp → Prop) → Prop} {Q : δ → Hp → Prop} {m : MS S α} {k : α → MS S γ} {s : S} (h1 : EvG J R1 t ρ m) (o : Ok J.Z (J.lay s) ρ G σ L H)
    (h : Pst J ρ σ L G R2 Q (bnd m k s)) {P : β → Hp → Prop} (kk : ∀ a b G' s' H', Same G G' → Ok J.Z (J.lay s') ρ G' σ L H' → R1 σ G' b a → Pst J ρ σ L G' R2 Q (k a s') → P b H') : t σ H P := by
  refine h1 σ G s H L o _ ?_
  have h' : Pst J ρ σ L G R2 Q ((m s).go k) := h
  cases e : m s with
  | stuck =>
    rw [e] at h'
    exact h'
  | ex c fs s' =>
    rw [e] at h'
    exact h'
  | ok a s' =>
    rw [e] at h'
    exact fun b G' H' sm o' r => kk a b G' s' H' sm o' r (Pst.mono sm h')
/-- a value that is at hand -/
theorem EvG.pure {R : Sl → Hp → β → α → Prop} {t : Sl → Hp → (β → Hp → Prop) → Prop} {a : α} (h : ∀ σ G s H L, Ok J.Z (J.lay s) ρ G σ L H → ∀ Q : β → Hp → Prop, (∀ b G' H', Same G G' → Ok J.Z (J.lay s) ρ G' σ L H' → R σ G' b a → Q b H') → t σ H Q) : EvG J R t ρ (ret a) :=
  fun σ G s H L o Q q => h σ G s H L o Q q
/-- what is left open may be anything -/
theorem Pst.lft {R : Sl → Hp → β → α → Prop} {Q : β → Hp → Prop} {o : Option α} {s : S} {P : Prop} (h : Pst J ρ σ L G R Q ((lft o : MS S α) s)) (k : ∀ a, o = some a → Pst J ρ σ L G R Q (.ok a s) → P) : P := by
  cases o with
  | none => exact h.elim
  | some a => exact k a rfl h
theorem Ev.x {te : TE} {m : MS S D} (h : Ev J te ρ m) : EvX J te ρ m := fun σ G s H L o Q q => h σ G s H L o Q (by
  cases e : m s with
  | stuck =>
    rw [e] at q
    exact q
  | ex c fs s' =>
    rw [e] at q
    exact q
  | ok a s' =>
    rw [e] at q
    exact fun b G' H' sm o' r => q b G' H' sm o' (.inl r))
theorem rX.mono {v : V} {d : D} (e : Same G G') (h : rX J ρ σ G v d) : rX J ρ σ G' v d := h.imp (fun r => r.mono e) id
/-- reading a list that stays or is a slot's own -/
theorem rX.lst {B : Led} {v : V} {ds : List D} (o : Ok J.Z B ρ G σ L H) (h : rX J ρ σ G v (.lst ds)) : ∃ a xs, v = .ref a ∧ H a = some (.lst xs) ∧ RpAll J.Z G xs ds := by
  rcases h with h | ⟨i, es, h1, h2, h3⟩
  · cases h with
    | lst ha r => exact ⟨_, _, rfl, o.same _ _ ha, r⟩
  · cases h3
    obtain ⟨p, xs, _, _, a1, _, a2, a3, _⟩ := o.own h1
    rw [a1] at h2
    cases h2
    exact ⟨p, xs, rfl, a2, a3⟩
theorem rX.tup {B : Led} {v : V} {ds : List D} (o : Ok J.Z B ρ G σ L H) (h : rX J ρ σ G v (.tup ds)) : ∃ a xs, v = .ref a ∧ H a = some (.tup xs) ∧ RpAll J.Z G xs ds := by
  rcases h with h | ⟨i, es, h1, h2, h3⟩
  · cases h with
    | tup ha r => exact ⟨_, _, rfl, o.same _ _ ha, r⟩
  · cases h3
theorem rX.dct {B : Led} {v : V} {kvs : List (Key × V)} (o : Ok J.Z B ρ G σ L H) (h : rX J ρ σ G v (.dct kvs)) : ∃ a, v = .ref a ∧ H a = some (.dK kvs) := by
  rcases h with h | ⟨i, es, h1, h2, h3⟩
  · cases h with
    | dct ha => exact ⟨_, rfl, o.same _ _ ha⟩
  · cases h3
theorem rX.obj {B : Led} {v : V} {c : Nat} {ds : List D} (o : Ok J.Z B ρ G σ L H) (h : rX J ρ σ G v (.obj c ds)) : ∃ a dx xs, v = .ref a ∧ H a = some (.ins (J.Z.cl c) dx ((J.Z.fn c).zip xs)) ∧ (J.Z.fn c).length = xs.length ∧ RpAll J.Z G xs ds := by
  rcases h with h | ⟨i, es, h1, h2, h3⟩
  · cases h with
    | obj ha hl r => exact ⟨_, _, _, rfl, o.same _ _ ha, hl, r⟩
  · cases h3
theorem rX.int {v : V} {i : Int} (h : rX J ρ σ G v (.int i)) : v = .int i := by
  rcases h with h | ⟨_, _, _, _, h3⟩
  · cases h
    rfl
  · cases h3
theorem rX.bl {v : V} {b : Bool} (h : rX J ρ σ G v (.bl b)) : v = .bl b := by
  rcases h with h | ⟨_, _, _, _, h3⟩
  · cases h
    rfl
  · cases h3
theorem rX.str {v : V} {x : Str} (h : rX J ρ σ G v (.str x)) : v = .str x := by
  rcases h with h | ⟨_, _, _, _, h3⟩
  · cases h
    rfl
  · cases h3
theorem rX.non {v : V} (h : rX J ρ σ G v .non) : v = .non := by
  rcases h with h | ⟨_, _, _, _, h3⟩
  · cases h
    rfl
  · cases h3

/-! ### names and constants -/
theorem ev_var {i : Nat} {d : D} (h : ρ[i]? = some (.P d)) : Ev J (tVar i) ρ (ret d) := EvG.pure fun σ G s H L o Q q => by
  obtain ⟨v, h1, h2⟩ := o.1.var h
  exact ⟨v, h1, q v G H (Same.refl _) o h2⟩
theorem ex_own {i : Nat} {ds : List D} (h : ρ[i]? = some (.O ds)) : EvX J (tVar i) ρ (ret (.lst ds)) := EvG.pure fun σ G s H L o Q q => by
  obtain ⟨p, xs, _, _, h1, _, _, _, _⟩ := o.own h
  exact ⟨.ref p, h1, q _ G H (Same.refl _) o (.inr ⟨i, ds, h, h1, rfl⟩)⟩
theorem ev_int {i : Int} : Ev J (tC (.int i)) ρ (ret (.int i)) := EvG.pure fun σ G s H L o Q q => q _ G H (Same.refl _) o (.int i)
theorem ev_bl {b : Bool} : Ev J (tC (.bl b)) ρ (ret (.bl b)) := EvG.pure fun σ G s H L o Q q => q _ G H (Same.refl _) o (.bl b)
theorem ev_str {x : Str} : Ev J (tC (.str x)) ρ (ret (.str x)) := EvG.pure fun σ G s H L o Q q => q _ G H (Same.refl _) o (.str x)
theorem ev_non : Ev J (tC .non) ρ (ret .non) := EvG.pure fun σ G s H L o Q q => q _ G H (Same.refl _) o .non

/-! ### operators by values: f says what r gives -/
/-- r reads only -/
def Op2 (J : Jc S) (ρ : Env) (r : R2) (f : D → D → Option D) : Prop := ∀ σ G s H L x y d e z, Ok J.Z (J.lay s) ρ G σ L H → rX J ρ σ G x d → rX J ρ σ G y e → f d e = some z →
  ∀ Q : VK, (∀ v G' H', Same G G' → Ok J.Z (J.lay s) ρ G' σ L H' → Rp J.Z G' v z → Q v H') → r x y H Q
theorem ev_op {r : R2} {ta tb : TE} {f : D → D → Option D} {ma mb : MS S D} (ho : Op2 J ρ r f) (ha : EvX J ta ρ ma) (hb : EvX J tb ρ mb) : Ev J (tOp r ta tb) ρ (bnd ma fun d => bnd mb fun e => lft (f d e)) :=
  fun σ G s H L o Q h => ha.run o h fun d x G1 s1 H1 e1 o1 rx h1 => hb.run o1 h1 fun e y G2 s2 H2 e2 o2 ry h2 => Pst.lft h2 fun z hz q => ho σ G2 s2 H2 L x y d e z o2 (rX.mono e2 rx) ry hz Q q
end
end Dm

set_option Elab.async false
set_option linter.all false
set_option maxRecDepth 100000
namespace Dm
open PySem PySem.Spec PyProof.Rows L2

/-! ### more than one reading of an operator -/
theorem OpR.either {X : Cx} {f : Value → Value → Sem Value} {r r' : R2} (h : OpR X f r) (h' : OpR X f r') : OpR X f (fun x y H Q => r x y H Q ∨ r' x y H Q) :=
  fun pins s σ H x y v u Q I rx ry q => q.elim (h pins s σ H x y v u Q I rx ry) (h' pins s σ H x y v u Q I rx ry)
theorem CallR.either {X : Cx} {f : Value} {r r' : List V → Hp → VK → Prop} (h : CallR X f r) (h' : CallR X f r') : CallR X f (fun xs H Q => r xs H Q ∨ r' xs H Q) :=
  fun pins s σ H xs us Q I rx q => q.elim (h pins s σ H xs us Q I rx) (h' pins s σ H xs us Q I rx)

/-! ### what the operators do to data -/
def tooLong : Nat := 1000000
theorem long_ok {n : Nat} (h : n < tooLong) : n ≤ sizeLine := Nat.le_of_lt (Nat.lt_trans h (by decide))
theorem long_lt {n : Nat} (h : n < tooLong) : n < sizeLine := Nat.lt_trans h (by decide)
def oI (f : Int → Int → Int) : D → D → Option D
  | .int i, .int j => some (.int (f i j))
  | _, _ => none
def oB (f : Int → Int → Bool) : D → D → Option D
  | .int i, .int j => some (.bl (f i j))
  | _, _ => none
def oIc (C : Int → Int → Bool) (f : Int → Int → Int) : D → D → Option D
  | .int i, .int j => if C i j then some (.int (f i j)) else none
  | _, _ => none
def oSub : D → D → Option D := oI fun i j => i - j
def oMod : D → D → Option D := oIc (fun _ j => decide (j ≠ 0)) fun i j => i.fmod j
def oDiv : D → D → Option D := oIc (fun _ j => decide (0 < j ∧ j.natAbs.log2 < 9000)) fun i j => i / j
def oPow : D → D → Option D := oIc (fun i j => decide (0 ≤ j ∧ j ≤ 1000000 ∧ i.natAbs < 2 ^ 64)) fun i j => i ^ j.toNat
def oLt : D → D → Option D := oB fun i j => decide (i < j)
def oLe : D → D → Option D := oB fun i j => decide (i ≤ j)
def oGt : D → D → Option D := oB fun i j => decide (j < i)
def oGe : D → D → Option D := oB fun i j => decide (j ≤ i)
/-- + of ints, texts, lists, tuples -/
def oAdd : D → D → Option D
  | .int i, .int j => some (.int (i + j))
  | .str x, .str y => if x.length + y.length < tooLong then some (.str (x ++ y)) else none
  | .lst xs, .lst ys => if xs.length + ys.length < tooLong then some (.lst (xs ++ ys)) else none
  | .tup xs, .tup ys => if xs.length + ys.length < tooLong then some (.tup (xs ++ ys)) else none
  | _, _ => none
/-- * of ints; a list several times -/
def oMul : D → D → Option D
  | .int i, .int j => if i.natAbs.log2 + j.natAbs.log2 < 1000000 then some (.int (i * j)) else none
  | .lst xs, .int k => if xs.length * k.toNat < tooLong ∧ k.natAbs < 2305843009213693952 then some (.lst (List.replicate k.toNat xs).flatten) else none
  | _, _ => none
def oNeg : D → Option D
  | .int i => some (.int (-i))
  | _ => none
def isN : D → Bool
  | .non => true
  | _ => false
def oIs (a : D) : D → Option D
  | .non => some (.bl (isN a))
  | _ => none
def oNis (a : D) : D → Option D
  | .non => some (.bl (!isN a))
  | _ => none
/-! as data that == compares -/
mutual
def toPy : D → Option PyData
  | .non => some .none
  | .bl b => some (.bool b)
  | .int i => some (.int i)
  | .str x => some (.str x)
  | .lst xs => (toPys xs).map PyData.list
  | .tup xs => (toPys xs).map PyData.tuple
  | .obj _ _ => none
  | .dct _ => none
def toPys : List D → Option (List PyData)
  | [] => some []
  | x :: xs => match toPy x, toPys xs with
    | some a, some b => some (a :: b)
    | _, _ => none
end
def eqD0 (d e : D) : Option Bool := match toPy d, toPy e with
  | some a, some b => if SeqAt.shaped a && SeqAt.shaped b then some (PyData.eqv a b) else none
  | _, _ => none
def eqD (d e : D) : Option Bool := match d, e with
  | .str x, .str y => some (decide (x = y))
  | d, e => eqD0 d e
theorem eqD_or {d e : D} {b : Bool} (h : eqD d e = some b) : (∃ x y, d = .str x ∧ e = .str y ∧ b = decide (x = y)) ∨ eqD0 d e = some b := by
  unfold eqD at h
  split at h
  · cases h
    exact .inl ⟨_, _, rfl, rfl, rfl⟩
  · exact .inr h
theorem eqD_up {d : D} (h : eqD0 d d = some true) : eqD d d = some true := by
  cases d <;> first | exact h | (show some (decide _) = _; rw [decide_eq_true rfl])
def rEqX (K : PySem.W.Frag) : R2 := fun x y H Q => rEqD K x y H Q ∨ rEq x y H Q
def rNeX (K : PySem.W.Frag) : R2 := fun x y H Q => rNeD K x y H Q ∨ rNe x y H Q
def oEq (d e : D) : Option D := (eqD d e).map D.bl
def oNe (d e : D) : Option D := (eqD d e).map fun b => .bl (!b)
/-- a value without parts -/
def flt : D → Option V
  | .non => some .non
  | .bl b => some (.bl b)
  | .int i => some (.int i)
  | .str x => some (.str x)
  | _ => none
def flts : List D → Option (List V)
  | [] => some []
  | x :: xs => match flt x, flts xs with
    | some a, some b => some (a :: b)
    | _, _ => none
def items : D → Option (List D)
  | .lst xs => some xs
  | .tup xs => some xs
  | _ => none
def memD (d e : D) : Option Bool := match flt d, (items e).bind flts with
  | some v, some vs => some (inV v vs)
  | _, _ => none
def oIn (d e : D) : Option D := (memD d e).map D.bl
def oNin (d e : D) : Option D := (memD d e).map fun b => .bl (!b)
def oIx : D → D → Option D
  | .lst xs, .int i => atI xs i
  | .tup xs, .int i => atI xs i
  | .str z, .int i => if z.length < tooLong then (atI z.cps.toList i).map fun c => .str ⟨#[c]⟩ else none
  | _, _ => none
def cut {α : Type} (xs : List α) (lo hi : Option Int) : List α := (xs.drop (HT.sIx xs.length 0 lo)).take (HT.sIx xs.length xs.length hi - HT.sIx xs.length 0 lo)
def oSl (d : D) (lo hi : Option Int) : Option D := match d with
  | .lst xs => some (.lst (cut xs lo hi))
  | .tup xs => some (.tup (cut xs lo hi))
  | .str z => if z.length < tooLong then some (.str (cutS z lo hi)) else none
  | _ => none
def oInt? : D → Option (Option Int)
  | .int i => some (some i)
  | _ => none
/-- truth -/
def tru : D → Option Bool
  | .non => some false
  | .bl b => some b
  | .int i => some (i != 0)
  | .str y => if y.length < tooLong then some ((y.length : Int) != 0) else none
  | .lst xs => some (!xs.isEmpty)
  | .tup xs => some (!xs.isEmpty)
  | .dct kvs => some (!kvs.isEmpty)
  | .obj _ _ => none
def asB : D → Option Bool
  | .bl b => some b
  | _ => none
def oLen : D → Option D
  | .lst xs => some (.int xs.length)
  | .tup xs => some (.int xs.length)
  | .str z => if z.length < tooLong then some (.int z.length) else none
  | .dct kvs => some (.int kvs.length)
  | _ => none
def oList : D → Option (List D) := items
def oTuple (d : D) : Option D := (items d).map D.tup
def oAbs : D → Option D
  | .int i => some (.int (if i < 0 then -i else i))
  | _ => none
def oMax2 : D → D → Option D := oI fun i j => if j > i then j else i
def oMin2 : D → D → Option D := oI fun i j => if j < i then j else i
def oIntOf : D → Option D
  | .int i => some (.int i)
  | .bl k => some (.int (if k then 1 else 0))
  | _ => none
def oNot (d : D) : Option D := (tru d).map fun b => .bl (!b)

section
variable {S : Type} {J : Jc S} {α β γ δ : Type} {ρ : Env} {σ : Sl} {G G' H : Hp} {B L : Led}
theorem rX.flt {v u : V} {d : D} (h : rX J ρ σ G v d) (e : flt d = some u) : v = u := by
  cases d with
  | non => cases e; exact rX.non h
  | bl b => cases e; exact rX.bl h
  | int i => cases e; exact rX.int h
  | str x => cases e; exact rX.str h
  | _ => cases e
theorem RpAll.flts {Z : Wo} : ∀ {vs us : List V} {ds : List D}, RpAll Z G vs ds → flts ds = some us → vs = us
  | _, _, _, .nil, e => by
    cases e
    rfl
  | v :: vs, us, d :: ds, .cons h r, e => by
    unfold Dm.flts at e
    cases e1 : Dm.flt d with
    | none => rw [e1] at e; cases e
    | some a =>
      rw [e1] at e
      cases e2 : Dm.flts ds with
      | none => rw [e2] at e; cases e
      | some b =>
        rw [e2] at e
        cases e
        have h1 : v = a := by
          cases d with
          | non => cases e1; cases h; rfl
          | bl b => cases e1; cases h; rfl
          | int i => cases e1; cases h; rfl
          | str x => cases e1; cases h; rfl
          | _ => cases e1
        rw [h1, r.flts e2]
theorem flt_flat : ∀ {d : D} {v : V}, flt d = some v → flatV v = true
  | .non, _, e => by cases e; rfl
  | .bl _, _, e => by cases e; rfl
  | .int _, _, e => by cases e; rfl
  | .str _, _, e => by cases e; rfl
  | .lst _, _, e => by cases e
  | .tup _, _, e => by cases e
  | .obj _ _, _, e => by cases e
  | .dct _, _, e => by cases e
theorem flts_flat : ∀ {ds : List D} {vs : List V}, flts ds = some vs → vs.all flatV = true
  | [], _, e => by cases e; rfl
  | d :: ds, vs, e => by
    unfold Dm.flts at e
    cases e1 : Dm.flt d with
    | none => rw [e1] at e; cases e
    | some a =>
      rw [e1] at e
      cases e2 : Dm.flts ds with
      | none => rw [e2] at e; cases e
      | some b =>
        rw [e2] at e
        cases e
        rw [List.all_cons, flt_flat e1, flts_flat e2]
        rfl
theorem rX.items {v : V} {d : D} {ds : List D} (o : Ok J.Z B ρ G σ L H) (h : rX J ρ σ G v d) (e : items d = some ds) : ∃ p xs, v = .ref p ∧ RpAll J.Z G xs ds ∧ ((d = .lst ds ∧ H p = some (.lst xs)) ∨ (d = .tup ds ∧ H p = some (.tup xs))) := by
  cases d with
  | lst xs =>
    cases e
    obtain ⟨a, ys, h1, h2, h3⟩ := rX.lst o h
    exact ⟨a, ys, h1, h3, .inl ⟨rfl, h2⟩⟩
  | tup xs =>
    cases e
    obtain ⟨a, ys, h1, h2, h3⟩ := rX.tup o h
    exact ⟨a, ys, h1, h3, .inr ⟨rfl, h2⟩⟩
  | _ => cases e
theorem sq_l {K : PySem.W.Frag} {a : Addr} {xs : List V} (h : H a = some (.lst xs)) : SqL K H a xs := .inl (.inl h)
theorem sq_t {K : PySem.W.Frag} {a : Addr} {xs : List V} (h : H a = some (.tup xs)) : SqT K H a xs := .inl (.inl h)
mutual
theorem Rp.dp {Z : Wo} {K : PySem.W.Frag} (s : Same G H) : ∀ {d : D} {v : V} {a : PyData}, Rp Z G v d → toPy d = some a → Dp K H v a
  | .non, _, _, h, e => by cases e; cases h; exact .non
  | .bl b, _, _, h, e => by cases e; cases h; exact .bl b
  | .int i, _, _, h, e => by cases e; cases h; exact .int i
  | .str x, _, _, h, e => by cases e; cases h; exact .str x
  | .lst ds, _, _, h, e => by
    unfold toPy at e
    cases e1 : toPys ds with
    | none => rw [e1] at e; cases e
    | some as =>
      rw [e1] at e
      cases e
      cases h with
      | lst ha r => exact .lst (sq_l (s _ _ ha)) (RpAll.dp s r e1)
  | .tup ds, _, _, h, e => by
    unfold toPy at e
    cases e1 : toPys ds with
    | none => rw [e1] at e; cases e
    | some as =>
      rw [e1] at e
      cases e
      cases h with
      | tup ha r => exact .tup (sq_t (s _ _ ha)) (RpAll.dp s r e1)
  | .obj _ _, _, _, _, e => by cases e
  | .dct _, _, _, _, e => by cases e
theorem RpAll.dp {Z : Wo} {K : PySem.W.Frag} (s : Same G H) : ∀ {ds : List D} {vs : List V} {as : List PyData}, RpAll Z G vs ds → toPys ds = some as → DpAll K H vs as
  | [], _, _, h, e => by
    cases e
    cases h
    exact .nil
  | d :: ds, _, _, h, e => by
    unfold toPys at e
    cases e1 : toPy d with
    | none => rw [e1] at e; cases e
    | some a =>
      cases e2 : toPys ds with
      | none => rw [e1, e2] at e; cases e
      | some b =>
        rw [e1, e2] at e
        cases e
        cases h with
        | cons h1 h2 => exact .cons (Rp.dp s h1 e1) (RpAll.dp s h2 e2)
end
theorem rX.dp {K : PySem.W.Frag} {v : V} {d : D} {a : PyData} (o : Ok J.Z B ρ G σ L H) (h : rX J ρ σ G v d) (e : toPy d = some a) : Dp K H v a := by
  rcases h with h | ⟨i, ds, h1, h2, h3⟩
  · exact h.dp o.same e
  · obtain ⟨p, xs, q1, q2, q3⟩ := rX.lst (J := J) (ds := ds) o (.inr ⟨i, ds, h1, h2, rfl⟩)
    subst q1
    subst h3
    unfold toPy at e
    cases e1 : toPys ds with
    | none => rw [e1] at e; cases e
    | some as =>
      rw [e1] at e
      cases e
      exact .lst (sq_l q2) (q3.dp o.same e1)

/-! ### the operators' readings -/
theorem o2_I {f : Int → Int → Int} : Op2 J ρ (rI0 fun i j => .int (f i j)) (oI f) := fun σ G s H L x y d e z o rx ry hz Q q => by
  cases d with
  | int i =>
    cases e with
    | int j =>
      cases hz
      exact ⟨i, j, rX.int rx, rX.int ry, q _ G H (Same.refl _) o (.int _)⟩
    | _ => cases hz
  | _ => cases hz
theorem o2_B {f : Int → Int → Bool} : Op2 J ρ (rI0 fun i j => .bl (f i j)) (oB f) := fun σ G s H L x y d e z o rx ry hz Q q => by
  cases d with
  | int i =>
    cases e with
    | int j =>
      cases hz
      exact ⟨i, j, rX.int rx, rX.int ry, q _ G H (Same.refl _) o (.bl _)⟩
    | _ => cases hz
  | _ => cases hz
theorem o2_Ic {C : Int → Int → Prop} {Cb : Int → Int → Bool} {f : Int → Int → Int} (hC : ∀ i j, Cb i j = true → C i j) : Op2 J ρ (rI C fun i j => .int (f i j)) (oIc Cb f) := fun σ G s H L x y d e z o rx ry hz Q q => by
  cases d with
  | int i =>
    cases e with
    | int j =>
      unfold oIc at hz
      dsimp only at hz
      by_cases h : Cb i j = true
      · rw [if_pos h] at hz
        cases hz
        exact ⟨i, j, rX.int rx, rX.int ry, hC i j h, q _ G H (Same.refl _) o (.int _)⟩
      · rw [if_neg h] at hz
        cases hz
    | _ => cases hz
  | _ => cases hz
theorem o2_sub : Op2 J ρ (rI0 fun i j => .int (i - j)) oSub := o2_I
theorem o2_mod : Op2 J ρ (rI (fun _ j => j ≠ 0) fun i j => .int (i.fmod j)) oMod := o2_Ic fun _ _ h => of_decide_eq_true h
theorem o2_div : Op2 J ρ (rI CDivW fun i j => .int (i / j)) oDiv := o2_Ic fun i j h => show (0 < j ∧ j.natAbs.log2 < 9000) from of_decide_eq_true h
theorem o2_pow : Op2 J ρ (rI CPow fun i j => .int (i ^ j.toNat)) oPow := o2_Ic fun i j h => show (0 ≤ j ∧ j ≤ 1000000 ∧ i.natAbs < 2 ^ 64) from of_decide_eq_true h
theorem o2_lt : Op2 J ρ (rI0 fun i j => .bl (decide (i < j))) oLt := o2_B
theorem o2_le : Op2 J ρ (rI0 fun i j => .bl (decide (i ≤ j))) oLe := o2_B
theorem o2_gt : Op2 J ρ (rI0 fun i j => .bl (decide (j < i))) oGt := o2_B
theorem o2_ge : Op2 J ρ (rI0 fun i j => .bl (decide (j ≤ i))) oGe := o2_B
def rAdd (K : PySem.W.Frag) : R2 := fun x y H Q => ((rI0 (fun i j => .int (i + j)) x y H Q ∨ (∃ i j, x = .str i ∧ y = .str j ∧ i.length + j.length ≤ sizeLine ∧ Q (.str (i ++ j)) H)) ∨ rCat x y H Q) ∨ rCatA K x y H Q
theorem op_addG {X : Cx} : OpR X (binaryOp .Add) (rAdd X.K) := OpR.either (OpR.either (OpR.either op_add op_add_str) op_cat) op_catA
theorem rp_ref {Z : Wo} {v : V} {xs : List D} (h : Rp Z G v (.tup xs)) : ∃ a ys, v = .ref a ∧ G a = some (.tup ys) ∧ RpAll Z G ys xs := by
  cases h with
  | tup ha r => exact ⟨_, _, rfl, ha, r⟩
theorem o2_add {K : PySem.W.Frag} : Op2 J ρ (rAdd K) oAdd := fun σ G s H L x y d e z o rx ry hz Q q => by
  cases d with
  | int i =>
    cases e with
    | int j =>
      cases hz
      exact .inl (.inl (.inl ⟨i, j, rX.int rx, rX.int ry, q _ G H (Same.refl _) o (.int _)⟩))
    | _ => cases hz
  | str i =>
    cases e with
    | str j =>
      unfold oAdd at hz
      dsimp only at hz
      split at hz
      · rename_i hl
        cases hz
        exact .inl (.inl (.inr ⟨i, j, rX.str rx, rX.str ry, long_ok hl, q _ G H (Same.refl _) o (.str _)⟩))
      · cases hz
    | _ => cases hz
  | lst xs =>
    cases e with
    | lst ys =>
      unfold oAdd at hz
      dsimp only at hz
      split at hz
      · rename_i hl
        cases hz
        obtain ⟨a, vs, rfl, h1, r1⟩ := rX.lst o rx
        obtain ⟨b, us, rfl, h2, r2⟩ := rX.lst o ry
        refine .inl (.inr ⟨a, b, vs, us, rfl, rfl, h1, h2, long_ok (by rw [r1.length, r2.length]; exact hl), fun p hp => ?_⟩)
        obtain ⟨sm, o'⟩ := o.lay (u := .lst (vs ++ us)) hp
        exact q _ _ _ sm o' (.lst upd_same ((r1.append r2).mono sm))
      · cases hz
    | _ => cases hz
  | tup xs =>
    cases e with
    | tup ys =>
      unfold oAdd at hz
      dsimp only at hz
      split at hz
      · rename_i hl
        cases hz
        have rx' : Rp J.Z G x (.tup xs) := by
          rcases rx with h | ⟨_, _, _, _, h3⟩
          · exact h
          · cases h3
        have ry' : Rp J.Z G y (.tup ys) := by
          rcases ry with h | ⟨_, _, _, _, h3⟩
          · exact h
          · cases h3
        obtain ⟨a, vs, rfl, h1, r1⟩ := rp_ref rx'
        obtain ⟨b, us, rfl, h2, r2⟩ := rp_ref ry'
        have l1 := r1.length
        have l2 := r2.length
        refine .inr ⟨a, b, vs, us, rfl, rfl, sq_t (o.same _ _ h1), sq_t (o.same _ _ h2), long_ok (by rw [l1, l2]; exact hl), fun e0 => ?_, fun _ e0 => ?_, fun _ _ p hp => ?_⟩
        · subst e0
          have e1 : xs = [] := List.eq_nil_of_length_eq_zero l1.symm
          rw [e1] at q
          exact q _ G H (Same.refl _) o ry'
        · subst e0
          have e1 : ys = [] := List.eq_nil_of_length_eq_zero l2.symm
          rw [e1, List.append_nil] at q
          exact q _ G H (Same.refl _) o rx'
        · obtain ⟨sm, o'⟩ := o.lay (u := .tup (vs ++ us)) hp
          exact q _ _ _ sm o' (.tup upd_same ((r1.append r2).mono sm))
      · cases hz
    | _ => cases hz
  | _ => cases hz
def rMul : R2 := fun x y H Q => rI CMulW (fun i j => .int (i * j)) x y H Q ∨ rRep x y H Q
theorem op_mulG {X : Cx} : OpR X (binaryOp .Mult) rMul := OpR.either op_mulW op_rep
theorem RpAll.rep {Z : Wo} {xs : List V} {ds : List D} (r : RpAll Z G xs ds) : ∀ n : Nat, RpAll Z G (List.replicate n xs).flatten (List.replicate n ds).flatten
  | 0 => .nil
  | n + 1 => by
    rw [List.replicate_succ, List.replicate_succ, List.flatten_cons, List.flatten_cons]
    exact r.append (RpAll.rep r n)
theorem o2_mul : Op2 J ρ rMul oMul := fun σ G s H L x y d e z o rx ry hz Q q => by
  cases d with
  | int i =>
    cases e with
    | int j =>
      unfold oMul at hz
      dsimp only at hz
      split at hz
      · rename_i hl
        cases hz
        exact .inl ⟨i, j, rX.int rx, rX.int ry, hl, q _ G H (Same.refl _) o (.int _)⟩
      · cases hz
    | _ => cases hz
  | lst xs =>
    cases e with
    | int k =>
      unfold oMul at hz
      dsimp only at hz
      split at hz
      · rename_i hl
        cases hz
        obtain ⟨a, vs, rfl, h1, r1⟩ := rX.lst o rx
        refine .inr ⟨a, k, vs, rfl, rX.int ry, h1, by have := hl.2; omega, by have := hl.2; omega, long_ok (by rw [r1.length]; exact hl.1), fun p hp => ?_⟩
        obtain ⟨sm, o'⟩ := o.lay (u := .lst (List.replicate k.toNat vs).flatten) hp
        exact q _ _ _ sm o' (.lst upd_same ((r1.rep k.toNat).mono sm))
      · cases hz
    | _ => cases hz
  | _ => cases hz
theorem isN_dec {v : V} {d : D} (o : Ok J.Z B ρ G σ L H) (h : rX J ρ σ G v d) : decide (v = .non) = isN d := by
  cases d with
  | non =>
    rw [rX.non h]
    rfl
  | lst ds =>
    obtain ⟨a, _, rfl, _, _⟩ := rX.lst o h
    exact decide_eq_false fun e => by cases e
  | bl b =>
    rw [rX.bl h]
    exact decide_eq_false fun e => by cases e
  | int b =>
    rw [rX.int h]
    exact decide_eq_false fun e => by cases e
  | str b =>
    rw [rX.str h]
    exact decide_eq_false fun e => by cases e
  | tup ds =>
    obtain ⟨a, _, rfl, _, _⟩ := rX.tup o h
    exact decide_eq_false fun e => by cases e
  | dct ds =>
    obtain ⟨a, rfl, _⟩ := rX.dct o h
    exact decide_eq_false fun e => by cases e
  | obj c ds =>
    obtain ⟨a, _, _, rfl, _⟩ := rX.obj o h
    exact decide_eq_false fun e => by cases e
theorem o2_is : Op2 J ρ (fun x y H Q => y = .non ∧ Q (.bl (decide (x = .non))) H) oIs := fun σ G s H L x y d e z o rx ry hz Q q => by
  cases e with
  | non =>
    cases hz
    refine ⟨rX.non ry, ?_⟩
    rw [isN_dec o rx]
    exact q _ G H (Same.refl _) o (.bl _)
  | _ => cases hz
theorem o2_nis : Op2 J ρ (fun x y H Q => y = .non ∧ Q (.bl (!decide (x = .non))) H) oNis := fun σ G s H L x y d e z o rx ry hz Q q => by
  cases e with
  | non =>
    cases hz
    refine ⟨rX.non ry, ?_⟩
    rw [isN_dec o rx]
    exact q _ G H (Same.refl _) o (.bl _)
  | _ => cases hz
theorem eqD_some {d e : D} {b : Bool} (h : eqD0 d e = some b) : ∃ a c, toPy d = some a ∧ toPy e = some c ∧ SeqAt.shaped a = true ∧ SeqAt.shaped c = true ∧ PyData.eqv a c = b := by
  unfold eqD0 at h
  cases e1 : toPy d with
  | none => rw [e1] at h; cases h
  | some a =>
    cases e2 : toPy e with
    | none => rw [e1, e2] at h; cases h
    | some c =>
      rw [e1, e2] at h
      dsimp only at h
      by_cases hs : (SeqAt.shaped a && SeqAt.shaped c) = true
      · rw [if_pos hs] at h
        cases h
        rw [Bool.and_eq_true] at hs
        exact ⟨a, c, rfl, rfl, hs.1, hs.2, rfl⟩
      · rw [if_neg hs] at h
        cases h
theorem o2_eq {K : PySem.W.Frag} : Op2 J ρ (rEqX K) oEq := fun σ G s H L x y d e z o rx ry hz Q q => by
  unfold oEq at hz
  cases h : eqD d e with
  | none => rw [h] at hz; cases hz
  | some b =>
    rw [h] at hz
    cases hz
    rcases eqD_or h with ⟨i, j, rfl, rfl, hb⟩ | h
    · rw [rX.str rx, rX.str ry]
      refine .inr ⟨rfl, ?_⟩
      have e : decide (V.str i = V.str j) = b := by
        rw [hb]
        by_cases c : i = j
        · subst c
          simp
        · simp [c]
      rw [e]
      exact q _ G H (Same.refl _) o (.bl _)
    · obtain ⟨a, c, e1, e2, s1, s2, e3⟩ := eqD_some h
      subst e3
      exact .inl ⟨a, c, rX.dp o rx e1, rX.dp o ry e2, s1, s2, q _ G H (Same.refl _) o (.bl _)⟩
theorem o2_ne {K : PySem.W.Frag} : Op2 J ρ (rNeX K) oNe := fun σ G s H L x y d e z o rx ry hz Q q => by
  unfold oNe at hz
  cases h : eqD d e with
  | none => rw [h] at hz; cases hz
  | some b =>
    rw [h] at hz
    cases hz
    rcases eqD_or h with ⟨i, j, rfl, rfl, hb⟩ | h
    · rw [rX.str rx, rX.str ry]
      refine .inr ⟨rfl, ?_⟩
      have e : decide (V.str i = V.str j) = b := by
        rw [hb]
        by_cases c : i = j
        · subst c
          simp
        · simp [c]
      rw [e]
      exact q _ G H (Same.refl _) o (.bl _)
    · obtain ⟨a, c, e1, e2, s1, s2, e3⟩ := eqD_some h
      subst e3
      exact .inl ⟨a, c, rX.dp o rx e1, rX.dp o ry e2, s1, s2, q _ G H (Same.refl _) o (.bl _)⟩
theorem memD_in {K : PySem.W.Frag} {x y : V} {d e : D} {b : Bool} (o : Ok J.Z B ρ G σ L H) (rx : rX J ρ σ G x d) (ry : rX J ρ σ G y e) (h : memD d e = some b) :
    ∃ p xs, y = .ref p ∧ (SqL K H p xs ∨ SqT K H p xs) ∧ flatV x = true ∧ xs.all flatV = true ∧ inV x xs = b := by
  unfold memD at h
  cases e1 : flt d with
  | none => rw [e1] at h; cases h
  | some v =>
    cases e2 : items e with
    | none => rw [e1, e2] at h; cases h
    | some es =>
      cases e3 : flts es with
      | none =>
        rw [e1, e2] at h
        dsimp only [Option.bind] at h
        rw [e3] at h
        cases h
      | some vs =>
        rw [e1, e2] at h
        dsimp only [Option.bind] at h
        rw [e3] at h
        cases h
        obtain ⟨p, xs, h1, h2, h3⟩ := rX.items o ry e2
        have hx := rX.flt rx e1
        have hv := h2.flts e3
        subst hx
        subst hv
        refine ⟨p, xs, h1, ?_, flt_flat e1, flts_flat e3, rfl⟩
        exact h3.imp (fun h => sq_l h.2) fun h => sq_t h.2
theorem o2_in {K : PySem.W.Frag} : Op2 J ρ (rIn K false) oIn := fun σ G s H L x y d e z o rx ry hz Q q => by
  unfold oIn at hz
  cases h : memD d e with
  | none => rw [h] at hz; cases hz
  | some b =>
    rw [h] at hz
    cases hz
    obtain ⟨p, xs, h1, h2, h3, h4, h5⟩ := memD_in (K := K) o rx ry h
    refine ⟨p, xs, h1, h2, h3, h4, ?_⟩
    rw [h5]
    exact q _ G H (Same.refl _) o (.bl _)
theorem o2_nin {K : PySem.W.Frag} : Op2 J ρ (rIn K true) oNin := fun σ G s H L x y d e z o rx ry hz Q q => by
  unfold oNin at hz
  cases h : memD d e with
  | none => rw [h] at hz; cases hz
  | some b =>
    rw [h] at hz
    cases hz
    obtain ⟨p, xs, h1, h2, h3, h4, h5⟩ := memD_in (K := K) o rx ry h
    refine ⟨p, xs, h1, h2, h3, h4, ?_⟩
    rw [h5]
    exact q _ G H (Same.refl _) o (.bl _)
theorem atI_rp {Z : Wo} {xs : List V} {ds : List D} {i : Int} {d : D} (r : RpAll Z G xs ds) (h : atI ds i = some d) : ∃ v, atI xs i = some v ∧ Rp Z G v d := by
  unfold atI at h ⊢
  rw [r.length]
  cases e : ixN ds.length i with
  | none => rw [e] at h; cases h
  | some j =>
    rw [e] at h
    exact r.get h
theorem o2_ix {K : PySem.W.Frag} : Op2 J ρ (rIx K) oIx := fun σ G s H L x y d e z o rx ry hz Q q => by
  cases e with
  | int i =>
    cases d with
    | lst ds =>
      obtain ⟨a, xs, h1, h2, h3⟩ := rX.lst o rx
      obtain ⟨v, h4, h5⟩ := atI_rp h3 hz
      exact .inl ⟨a, xs, i, v, h1, rX.int ry, sq_l h2, h4, q _ G H (Same.refl _) o h5⟩
    | tup ds =>
      obtain ⟨a, xs, h1, h2, h3⟩ := rX.tup o rx
      obtain ⟨v, h4, h5⟩ := atI_rp h3 hz
      exact .inr (.inl ⟨a, xs, i, v, h1, rX.int ry, sq_t h2, h4, q _ G H (Same.refl _) o h5⟩)
    | str w =>
      unfold oIx at hz
      dsimp only at hz
      split at hz
      · rename_i hl
        cases e1 : atI w.cps.toList i with
        | none => rw [e1] at hz; cases hz
        | some c =>
          rw [e1] at hz
          cases hz
          exact .inr (.inr ⟨w, i, c, rX.str rx, rX.int ry, long_ok hl, e1, q _ G H (Same.refl _) o (.str _)⟩)
      · cases hz
    | _ => cases hz
  | _ => cases d <;> cases hz
end
end Dm

set_option Elab.async false
set_option linter.all false
set_option maxRecDepth 100000
namespace Dm
open PySem PySem.Spec PyProof.Rows L2

section
variable {S : Type} {J : Jc S} {α β γ δ : Type} {ρ : Env} {σ : Sl} {G G' H : Hp} {B L : Led}

/-! ### tests -/
theorem et_of {t : TT} {te : TE} {f : D → Option Bool} {m : MS S D} (ht : t = fun σ H Q => te σ H fun x H1 => ∃ k, x = .bl k ∧ Q k H1) (hf : ∀ d b, f d = some b → d = .bl b) (h : EvX J te ρ m) : EvT J t ρ (bnd m fun d => lft (f d)) := fun σ G s H L o Q q => by
  subst ht
  refine h.run o q fun d x G1 s1 H1 e1 o1 rx q1 => Pst.lft q1 fun b hb q2 => ?_
  rw [hf d b hb] at rx
  exact ⟨b, rX.bl rx, q2 b G1 H1 (Same.refl _) o1 rfl⟩
theorem asB_eq : ∀ d b, asB d = some b → d = .bl b := fun d b h => by
  cases d with
  | bl c => cases h; rfl
  | _ => cases h
theorem et_B {te : TE} {m : MS S D} (h : Ev J te ρ m) : EvT J (tB te) ρ (bnd m fun d => lft (asB d)) := et_of rfl asB_eq h.x
theorem et_test {te : TE} {m : MS S D} (h : Ev J te ρ m) : EvT J (tTest te) ρ (bnd m fun d => lft (asB d)) := et_of rfl asB_eq h.x
theorem tru_ok {K : PySem.W.Frag} {x : V} {d : D} {b : Bool} (o : Ok J.Z B ρ G σ L H) (rx : rX J ρ σ G x d) (h : tru d = some b) : TruV K x H b := by
  cases d with
  | non => cases h; rw [rX.non rx]; rfl
  | bl c => cases h; rw [rX.bl rx]; rfl
  | int c => cases h; rw [rX.int rx]; rfl
  | str c =>
    unfold tru at h
    dsimp only at h
    split at h
    · rename_i hl
      cases h
      rw [rX.str rx]
      exact ⟨long_ok hl, rfl⟩
    · cases h
  | lst ds =>
    cases h
    obtain ⟨a, xs, rfl, h1, r⟩ := rX.lst o rx
    exact .inl ⟨xs, sq_l h1, by cases r <;> rfl⟩
  | tup ds =>
    cases h
    obtain ⟨a, xs, rfl, h1, r⟩ := rX.tup o rx
    exact .inr (.inl ⟨xs, sq_t h1, by cases r <;> rfl⟩)
  | dct kvs =>
    cases h
    obtain ⟨a, rfl, h1⟩ := rX.dct o rx
    exact .inr (.inr ⟨kvs, h1, rfl⟩)
  | obj c fs => cases h
theorem et_tru {K : PySem.W.Frag} {te : TE} {m : MS S D} (h : EvX J te ρ m) : EvT J (fun σ H Q => te σ H fun x H1 => ∃ k, TruV K x H1 k ∧ Q k H1) ρ (bnd m fun d => lft (tru d)) := fun σ G s H L o Q q =>
  h.run o q fun d x G1 s1 H1 e1 o1 rx q1 => Pst.lft q1 fun b hb q2 => ⟨b, tru_ok o1 rx hb, q2 b G1 H1 (Same.refl _) o1 rfl⟩
theorem et_and {t u : TT} {m n : MS S Bool} (h1 : EvT J t ρ m) (h2 : EvT J u ρ n) : EvT J (tAnd t u) ρ (bnd m fun b => if b = true then n else ret false) := fun σ G s H L o Q q =>
  h1.run o q fun b c G1 s1 H1 e1 o1 hc q1 => by
    cases hc
    cases b with
    | true => exact h2 σ G1 s1 H1 L o1 Q q1
    | false => exact q1 false G1 H1 (Same.refl _) o1 rfl
theorem et_or {t u : TT} {m n : MS S Bool} (h1 : EvT J t ρ m) (h2 : EvT J u ρ n) : EvT J (tOr t u) ρ (bnd m fun b => if b = true then ret true else n) := fun σ G s H L o Q q =>
  h1.run o q fun b c G1 s1 H1 e1 o1 hc q1 => by
    cases hc
    cases b with
    | true => exact q1 true G1 H1 (Same.refl _) o1 rfl
    | false => exact h2 σ G1 s1 H1 L o1 Q q1
theorem et_not {t : TT} {m : MS S Bool} (h1 : EvT J t ρ m) : EvT J (tNot t) ρ (bnd m fun b => ret (!b)) := fun σ G s H L o Q q =>
  h1.run o q fun b c G1 s1 H1 e1 o1 hc q1 => by
    cases hc
    exact q1 (!b) G1 H1 (Same.refl _) o1 rfl

/-! ### values by tests -/
theorem ev_ifE {tt : TT} {ta tb : TE} {mt : MS S Bool} {ma mb : MS S D} (h : EvT J tt ρ mt) (h1 : Ev J ta ρ ma) (h2 : Ev J tb ρ mb) : Ev J (tIf tt ta tb) ρ (bnd mt fun b => if b = true then ma else mb) := fun σ G s H L o Q q =>
  h.run o q fun b c G1 s1 H1 e1 o1 hc q1 => by
    cases hc
    cases b with
    | true => exact h1 σ G1 s1 H1 L o1 Q q1
    | false => exact h2 σ G1 s1 H1 L o1 Q q1
theorem ev_andV {ta tb : TE} {ma mb : MS S D} (h1 : Ev J ta ρ ma) (h2 : Ev J tb ρ mb) : Ev J (tAndV ta tb) ρ (bnd ma fun d => bnd (lft (asB d)) fun b => if b = true then mb else ret (.bl false)) := fun σ G s H L o Q q =>
  h1.run o q fun d x G1 s1 H1 e1 o1 rx q1 => by
    cases e : asB d with
    | none =>
      rw [e] at q1
      exact q1.elim
    | some b =>
      rw [e] at q1
      rw [asB_eq d b e] at rx
      refine ⟨b, rX.bl (J := J) (ρ := ρ) (σ := σ) (.inl rx), ?_⟩
      cases b with
      | true => exact h2 σ G1 s1 H1 L o1 Q q1
      | false => exact q1 _ G1 H1 (Same.refl _) o1 (.bl _)
theorem ev_orV {ta tb : TE} {ma mb : MS S D} (h1 : Ev J ta ρ ma) (h2 : Ev J tb ρ mb) : Ev J (tOrV ta tb) ρ (bnd ma fun d => bnd (lft (asB d)) fun b => if b = true then ret (.bl true) else mb) := fun σ G s H L o Q q =>
  h1.run o q fun d x G1 s1 H1 e1 o1 rx q1 => by
    cases e : asB d with
    | none =>
      rw [e] at q1
      exact q1.elim
    | some b =>
      rw [e] at q1
      rw [asB_eq d b e] at rx
      refine ⟨b, rX.bl (J := J) (ρ := ρ) (σ := σ) (.inl rx), ?_⟩
      cases b with
      | true => exact q1 _ G1 H1 (Same.refl _) o1 (.bl _)
      | false => exact h2 σ G1 s1 H1 L o1 Q q1
theorem ev_notV {ta : TE} {ma : MS S D} (h1 : Ev J ta ρ ma) : Ev J (tNotV ta) ρ (bnd ma fun d => bnd (lft (asB d)) fun b => ret (.bl (!b))) := fun σ G s H L o Q q =>
  h1.run o q fun d x G1 s1 H1 e1 o1 rx q1 => by
    cases e : asB d with
    | none =>
      rw [e] at q1
      exact q1.elim
    | some b =>
      rw [e] at q1
      rw [asB_eq d b e] at rx
      exact ⟨b, rX.bl (J := J) (ρ := ρ) (σ := σ) (.inl rx), q1 _ G1 H1 (Same.refl _) o1 (.bl _)⟩
/-- a < b < c -/
theorem ev_chain {r r' : R2} {ta tb tc : TE} {f f' : D → D → Option D} {ma mb mc : MS S D} (ho : Op2 J ρ r f) (ho' : Op2 J ρ r' f') (ha : Ev J ta ρ ma) (hb : Ev J tb ρ mb) (hc : Ev J tc ρ mc) :
    Ev J (tChain r r' ta tb tc) ρ (bnd ma fun d => bnd mb fun e => bnd (lft ((f d e).bind asB)) fun k => if k = true then bnd mc fun g => lft (f' e g) else ret (.bl false)) := fun σ G s H L o Q q =>
  ha.run o q fun d x G1 s1 H1 e1 o1 rx q1 => hb.run o1 q1 fun e y G2 s2 H2 e2 o2 ry q2 => by
    cases e3 : f d e with
    | none =>
      rw [e3] at q2
      exact q2.elim
    | some z =>
      rw [e3] at q2
      refine ho σ G2 s2 H2 L x y d e z o2 (.inl (Rp.mono e2 rx)) (.inl ry) e3 _ fun v G3 H3 e4 o3 rv => ?_
      cases e5 : asB z with
      | none =>
        dsimp only [Option.bind] at q2
        rw [e5] at q2
        exact q2.elim
      | some k =>
        dsimp only [Option.bind] at q2
        rw [e5] at q2
        rw [asB_eq z k e5] at rv
        refine ⟨k, rX.bl (J := J) (ρ := ρ) (σ := σ) (.inl rv), ?_⟩
        cases k with
        | false => exact q2 _ G3 H3 e4 o3 (.bl _)
        | true =>
          have q3 : Pst J ρ σ L G2 (rP J) Q (bnd mc (fun g => lft (f' e g)) s2) := q2
          exact hc.run o3 (Pst.mono e4 q3) fun g w G4 s4 H4 e6 o4 rw' q4 => Pst.lft q4 fun z2 hz2 q5 => ho' σ G4 s4 H4 L y w e g z2 o4 (.inl ((Rp.mono e4 ry).mono e6)) (.inl rw') hz2 Q q5

/-! ### lists of values, displays -/
theorem ea_nil : EvA J tNil ρ (ret []) := EvG.pure fun σ G s H L o Q q => q [] G H (Same.refl _) o .nil
theorem ea_cons {te : TE} {tr : TA} {m : MS S D} {n : MS S (List D)} (h : Ev J te ρ m) (hr : EvA J tr ρ n) : EvA J (tCons te tr) ρ (bnd m fun d => bnd n fun ds => ret (d :: ds)) := fun σ G s H L o Q q =>
  h.run o q fun d x G1 s1 H1 e1 o1 rx q1 => hr.run o1 q1 fun ds xs G2 s2 H2 e2 o2 rs q2 => q2 (x :: xs) G2 H2 (Same.refl _) o2 (.cons (Rp.mono e2 rx) rs)
def mkL (ds : List D) : Option (List D) := if ds.length < tooLong then some ds else none
theorem mkL_some {ds es : List D} (h : mkL ds = some es) : es = ds ∧ ds.length < tooLong := by
  unfold mkL at h
  by_cases hl : ds.length < tooLong
  · rw [if_pos hl] at h
    cases h
    exact ⟨rfl, hl⟩
  · rw [if_neg hl] at h
    cases h
theorem ev_tup {ta : TA} {n : MS S (List D)} (h : EvA J ta ρ n) : Ev J (tTup ta) ρ (bnd n fun ds => lft ((mkL ds).map D.tup)) := fun σ G s H L o Q q =>
  h.run o q fun ds xs G1 s1 H1 e1 o1 rs q1 => Pst.lft q1 fun d hd q2 => by
    cases e : mkL ds with
    | none => rw [e] at hd; cases hd
    | some es =>
      rw [e] at hd
      cases hd
      obtain ⟨e', hl⟩ := mkL_some e
      subst e'
      refine ⟨long_ok (by rw [RpAll.length rs]; exact hl), fun p hp => ?_⟩
      obtain ⟨sm, o'⟩ := o1.lay (u := .tup xs) hp
      exact q2 _ _ _ sm o' (.tup upd_same (RpAll.mono sm rs))

/-! ### lists that the def makes: own for now -/
/-- a new list at p, nobody else's -/
def Nw (J : Jc S) (ρ : Env) (G : Hp) (σ : Sl) (L : Led) (s : S) (H : Hp) (p : Addr) (xs : List V) : Prop := Cells J.Z G ρ σ L ∧ Wd G ((p, .lst xs) :: (L ++ J.lay s)) H
def PstL (J : Jc S) (ρ : Env) (σ : Sl) (L : Led) (G : Hp) (Q : VK) : Rs S (List D) → Prop
  | .stuck => False
  | .ex c fs s => Out J ρ σ L G c fs s
  | .ok ds s => ∀ p xs G' H', Same G G' → Nw J ρ G' σ L s H' p xs → RpAll J.Z G' xs ds → Q (.ref p) H'
def EvL (J : Jc S) (te : TE) (ρ : Env) (m : MS S (List D)) : Prop := ∀ σ G s H L, Ok J.Z (J.lay s) ρ G σ L H → ∀ Q, PstL J ρ σ L G Q (m s) → te σ H Q
theorem PstL.mono {Q : VK} (e : Same G G') : ∀ {r : Rs S (List D)}, PstL J ρ σ L G Q r → PstL J ρ σ L G' Q r
  | .stuck, h => h
  | .ex _ _ _, h => Out.mono e h
  | .ok _ _, h => fun p xs G2 H2 a c => h p xs G2 H2 (e.trans a) c
theorem PstL.lft {Q : VK} {o : Option (List D)} {s : S} {P : Prop} (h : PstL J ρ σ L G Q ((lft o : MS S (List D)) s)) (k : ∀ a, o = some a → PstL J ρ σ L G Q (.ok a s) → P) : P := by
  cases o with
  | none => exact h.elim
  | some a => exact k a rfl h
theorem EvG.runL {R1 : Sl → Hp → β → α → Prop} {t : Sl → Hp → (β → Hp → Prop) → Prop} {Q : VK} {m : MS S α} {k : α → MS S (List D)} {s : S} (h1 : EvG J R1 t ρ m) (o : Ok J.Z (J.lay s) ρ G σ L H)
    (h : PstL J ρ σ L G Q (bnd m k s)) {P : β → Hp → Prop} (kk : ∀ a b G' s' H', Same G G' → Ok J.Z (J.lay s') ρ G' σ L H' → R1 σ G' b a → PstL J ρ σ L G' Q (k a s') → P b H') : t σ H P := by
  refine h1 σ G s H L o _ ?_
  have h' : PstL J ρ σ L G Q ((m s).go k) := h
  cases e : m s with
  | stuck =>
    rw [e] at h'
    exact h'
  | ex c fs s' =>
    rw [e] at h'
    exact h'
  | ok a s' =>
    rw [e] at h'
    exact fun b G' H' sm o' r => kk a b G' s' H' sm o' r (PstL.mono sm h')
theorem Ok.nw {p : Addr} {xs : List V} {s : S} (o : Ok J.Z (J.lay s) ρ G σ L H) (h : H p = none) : Nw J ρ G σ L s (upd H p (.lst xs)) p xs := by
  obtain ⟨c, w⟩ := o
  exact ⟨c, w.keep h⟩
theorem Nw.ok {p : Addr} {xs : List V} {s : S} (o : Nw J ρ G σ L s H p xs) : Same G (upd G p (.lst xs)) ∧ Ok J.Z (J.lay s) ρ (upd G p (.lst xs)) σ L H := by
  obtain ⟨c, w⟩ := o
  exact ⟨w.frzS, c.mono w.frzS, w.frz⟩
/-- it stays as it is from now on -/
theorem ev_new {te : TE} {m : MS S (List D)} (h : EvL J te ρ m) : Ev J te ρ (bnd m fun ds => ret (.lst ds)) := fun σ G s H L o Q q => h σ G s H L o Q (by
  have q' : Pst J ρ σ L G (rP J) Q ((m s).go fun ds => ret (.lst ds)) := q
  cases e : m s with
  | stuck =>
    rw [e] at q'
    exact q'
  | ex c fs s' =>
    rw [e] at q'
    exact q'
  | ok ds s' =>
    rw [e] at q'
    intro p xs G' H' sm n r
    obtain ⟨sm2, o2⟩ := n.ok
    exact q' _ _ _ (sm.trans sm2) o2 (.lst upd_same (r.mono sm2)))
theorem el_lst {ta : TA} {n : MS S (List D)} (h : EvA J ta ρ n) : EvL J (tLst ta) ρ (bnd n fun ds => lft (mkL ds)) := fun σ G s H L o Q q =>
  h.runL o q fun ds xs G1 s1 H1 e1 o1 rs q1 => PstL.lft q1 fun es e q2 => by
    obtain ⟨e', hl⟩ := mkL_some e
    subst e'
    exact ⟨long_ok (by rw [RpAll.length rs]; exact hl), fun p hp => q2 _ _ _ _ (Same.refl _) (o1.nw hp) rs⟩

/-! ### slices -/
def rSl (K : PySem.W.Frag) : V → Option Int → Option Int → Hp → VK → Prop := fun x lo hi H Q => (rSlL K x lo hi H Q ∨ rSlA K x lo hi H Q) ∨ rSlS x lo hi H Q
theorem sl_any {X : Cx} : SlR X (rSl X.K) := SlR.or (SlR.or sl_list sl_tupA) sl_str
theorem eo_none : EvO J tNoPart ρ (ret none) := EvG.pure fun σ G s H L o Q q => q none G H (Same.refl _) o rfl
theorem eo_some {te : TE} {m : MS S D} (h : Ev J te ρ m) : EvO J (tPart te) ρ (bnd m fun d => lft (oInt? d)) := fun σ G s H L o Q q =>
  h.run o q fun d x G1 s1 H1 e1 o1 rx q1 => Pst.lft q1 fun b hb q2 => by
    cases d with
    | int i =>
      cases hb
      exact ⟨i, rX.int (J := J) (ρ := ρ) (σ := σ) (.inl rx), q2 _ G1 H1 (Same.refl _) o1 rfl⟩
    | _ => cases hb
theorem cut_rp {Z : Wo} {xs : List V} {ds : List D} {lo hi : Option Int} (r : RpAll Z G xs ds) : RpAll Z G (cutV xs lo hi) (cut ds lo hi) := by
  unfold cutV cut
  rw [r.length]
  exact (r.drop _).take _
theorem cut_all {α : Type} {xs : List α} {lo hi : Option Int} (h : HT.sIx xs.length 0 lo = 0 ∧ HT.sIx xs.length xs.length hi = xs.length) : cut xs lo hi = xs := by
  unfold cut
  rw [h.1, h.2, List.drop_zero, Nat.sub_zero, List.take_length]
theorem ev_sl {K : PySem.W.Frag} {te : TE} {tl th : TO} {m : MS S D} {ml mh : MS S (Option Int)} (h : EvX J te ρ m) (hl : EvO J tl ρ ml) (hh : EvO J th ρ mh) : Ev J (tSl (rSl K) te tl th) ρ (bnd m fun d => bnd ml fun lo => bnd mh fun hi => lft (oSl d lo hi)) := fun σ G s H L o Q q =>
  h.run o q fun d x G1 s1 H1 e1 o1 rx q1 => hl.run o1 q1 fun lo l' G2 s2 H2 e2 o2 rl q2 => hh.run o2 q2 fun hi h' G3 s3 H3 e3 o3 rh q3 => Pst.lft q3 fun z hz q4 => by
    cases rl
    cases rh
    have rx3 : rX J ρ σ G3 x d := (rX.mono e3 (rX.mono e2 rx))
    cases d with
    | lst ds =>
      cases hz
      obtain ⟨a, xs, h1, h2, r⟩ := rX.lst o3 rx3
      refine .inl (.inl ⟨a, xs, h1, sq_l h2, fun p hp => ?_⟩)
      obtain ⟨sm, o'⟩ := o3.lay (u := .lst (cutV xs lo hi)) hp
      exact q4 _ _ _ sm o' (.lst upd_same ((cut_rp r).mono sm))
    | tup ds =>
      cases hz
      have rp : Rp J.Z G3 x (.tup ds) := by
        rcases rx3 with h | ⟨_, _, _, _, h3⟩
        · exact h
        · cases h3
      obtain ⟨a, xs, rfl, h1, r⟩ := rp_ref rp
      refine .inl (.inr ⟨a, xs, rfl, sq_t (o3.same _ _ h1), fun w => ?_, fun _ p hp => ?_⟩)
      · rw [r.length] at w
        rw [cut_all w] at q4
        exact q4 _ G3 H3 (Same.refl _) o3 rp
      · obtain ⟨sm, o'⟩ := o3.lay (u := .tup (cutV xs lo hi)) hp
        exact q4 _ _ _ sm o' (.tup upd_same ((cut_rp r).mono sm))
    | str w =>
      unfold oSl at hz
      dsimp only at hz
      split at hz
      · rename_i hlen
        cases hz
        exact .inr ⟨w, rX.str rx3, long_ok hlen, q4 _ G3 H3 (Same.refl _) o3 (.str _)⟩
      · cases hz
    | _ => cases hz

/-! ### built-ins by name -/
/-- c reads the one value -/
def Op1 (J : Jc S) (ρ : Env) (r : List V → Hp → VK → Prop) (f : D → Option D) : Prop := ∀ σ G s H L x d z, Ok J.Z (J.lay s) ρ G σ L H → rX J ρ σ G x d → f d = some z →
  ∀ Q : VK, (∀ v G' H', Same G G' → Ok J.Z (J.lay s) ρ G' σ L H' → Rp J.Z G' v z → Q v H') → r [x] H Q
theorem ev_b1 {r : List V → Hp → VK → Prop} {te : TE} {f : D → Option D} {m : MS S D} (ho : Op1 J ρ r f) (h : EvX J te ρ m) : Ev J (tCB r (tCons te tNil)) ρ (bnd m fun d => lft (f d)) := fun σ G s H L o Q q =>
  h.run o q fun d x G1 s1 H1 e1 o1 rx q1 => Pst.lft q1 fun z hz q2 => ho σ G1 s1 H1 L x d z o1 rx hz Q q2
def Op2c (J : Jc S) (ρ : Env) (r : List V → Hp → VK → Prop) (f : D → D → Option D) : Prop := Op2 J ρ (fun x y H Q => r [x, y] H Q) f
theorem ev_b2 {r : List V → Hp → VK → Prop} {ta tb : TE} {f : D → D → Option D} {ma mb : MS S D} (ho : Op2c J ρ r f) (ha : EvX J ta ρ ma) (hb : EvX J tb ρ mb) : Ev J (tCB r (tCons ta (tCons tb tNil))) ρ (bnd ma fun d => bnd mb fun e => lft (f d e)) := fun σ G s H L o Q q =>
  ha.run o q fun d x G1 s1 H1 e1 o1 rx h1 => hb.run o1 h1 fun e y G2 s2 H2 e2 o2 ry h2 => Pst.lft h2 fun z hz q => ho σ G2 s2 H2 L x y d e z o2 (rX.mono e2 rx) ry hz Q q
def rLn (K : PySem.W.Frag) : List V → Hp → VK → Prop := fun xs H Q => (∃ x n, xs = [x] ∧ LenV K x H n ∧ Q (.int n) H) ∨ ∃ a kvs, xs = [V.ref a] ∧ H a = some (.dK kvs) ∧ Q (.int kvs.length) H
theorem call_ln {X : Cx} : CallR X (.builtin "len") (rLn X.K) := CallR.either call_len call_lenD
theorem o1_len {K : PySem.W.Frag} : Op1 J ρ (rLn K) oLen := fun σ G s H L x d z o rx hz Q q => by
  cases d with
  | lst ds =>
    cases hz
    obtain ⟨a, xs, h1, h2, r⟩ := rX.lst o rx
    refine .inl ⟨x, xs.length, rfl, ?_, ?_⟩
    · rw [h1]
      exact .inl ⟨xs, sq_l h2, rfl⟩
    · rw [r.length]
      exact q _ G H (Same.refl _) o (.int _)
  | tup ds =>
    cases hz
    obtain ⟨a, xs, h1, h2, r⟩ := rX.tup o rx
    refine .inl ⟨x, xs.length, rfl, ?_, ?_⟩
    · rw [h1]
      exact .inr ⟨xs, sq_t h2, rfl⟩
    · rw [r.length]
      exact q _ G H (Same.refl _) o (.int _)
  | str w =>
    unfold oLen at hz
    dsimp only at hz
    split at hz
    · rename_i hl
      cases hz
      exact .inl ⟨x, w.length, rfl, by rw [rX.str rx]; exact ⟨long_ok hl, rfl⟩, q _ G H (Same.refl _) o (.int _)⟩
    · cases hz
  | dct kvs =>
    cases hz
    obtain ⟨a, h1, h2⟩ := rX.dct o rx
    exact .inr ⟨a, kvs, by rw [h1], h2, q _ G H (Same.refl _) o (.int _)⟩
  | _ => cases hz
theorem o1_abs : Op1 J ρ (fun xs H Q => ∃ i, xs = [.int i] ∧ Q (.int (if i < 0 then -i else i)) H) oAbs := fun σ G s H L x d z o rx hz Q q => by
  cases d with
  | int i =>
    cases hz
    exact ⟨i, by rw [rX.int rx], q _ G H (Same.refl _) o (.int _)⟩
  | _ => cases hz
theorem o1_int : Op1 J ρ (fun xs H Q => (∃ i, xs = [.int i] ∧ Q (.int i) H) ∨ ∃ k, xs = [.bl k] ∧ Q (.int (if k then 1 else 0)) H) oIntOf := fun σ G s H L x d z o rx hz Q q => by
  cases d with
  | int i =>
    cases hz
    exact .inl ⟨i, by rw [rX.int rx], q _ G H (Same.refl _) o (.int _)⟩
  | bl k =>
    cases hz
    exact .inr ⟨k, by rw [rX.bl rx], q _ G H (Same.refl _) o (.int _)⟩
  | _ => cases hz
theorem o2_max : Op2c J ρ (fun xs H Q => ∃ i j, xs = [.int i, .int j] ∧ Q (.int (if j > i then j else i)) H) oMax2 := fun σ G s H L x y d e z o rx ry hz Q q => by
  cases d with
  | int i =>
    cases e with
    | int j =>
      cases hz
      exact ⟨i, j, by rw [rX.int rx, rX.int ry], q _ G H (Same.refl _) o (.int _)⟩
    | _ => cases hz
  | _ => cases hz
theorem o2_min : Op2c J ρ (fun xs H Q => ∃ i j, xs = [.int i, .int j] ∧ Q (.int (if j < i then j else i)) H) oMin2 := fun σ G s H L x y d e z o rx ry hz Q q => by
  cases d with
  | int i =>
    cases e with
    | int j =>
      cases hz
      exact ⟨i, j, by rw [rX.int rx, rX.int ry], q _ G H (Same.refl _) o (.int _)⟩
    | _ => cases hz
  | _ => cases hz
def rTp (K : PySem.W.Frag) : List V → Hp → VK → Prop := fun xs H Q => ∃ p ys, xs = [.ref p] ∧ ((SqL K H p ys ∧ ∀ l, H l = none → Q (.ref l) (upd H l (.tup ys))) ∨ (SqT K H p ys ∧ Q (.ref p) H))
theorem o1_tuple {K : PySem.W.Frag} : Op1 J ρ (rTp K) oTuple := fun σ G s H L x d z o rx hz Q q => by
  cases d with
  | lst ds =>
    cases hz
    obtain ⟨a, xs, h1, h2, r⟩ := rX.lst o rx
    refine ⟨a, xs, by rw [h1], .inl ⟨sq_l h2, fun l hl => ?_⟩⟩
    obtain ⟨sm, o'⟩ := o.lay (u := .tup xs) hl
    exact q _ _ _ sm o' (.tup upd_same (r.mono sm))
  | tup ds =>
    cases hz
    have rp : Rp J.Z G x (.tup ds) := by
      rcases rx with h | ⟨_, _, _, _, h3⟩
      · exact h
      · cases h3
    obtain ⟨a, xs, rfl, h1, r⟩ := rp_ref rp
    exact ⟨a, xs, rfl, .inr ⟨sq_t (o.same _ _ h1), q _ G H (Same.refl _) o rp⟩⟩
  | _ => cases hz
def rLs (K : PySem.W.Frag) : List V → Hp → VK → Prop := fun xs H Q => ∃ p ys, xs = [.ref p] ∧ (SqL K H p ys ∨ SqT K H p ys) ∧ ∀ l, H l = none → Q (.ref l) (upd H l (.lst ys))
/-- list(x) -/
theorem el_list {K : PySem.W.Frag} {te : TE} {m : MS S D} (h : EvX J te ρ m) : EvL J (tCB (rLs K) (tCons te tNil)) ρ (bnd m fun d => lft (items d)) := fun σ G s H L o Q q =>
  h.runL o q fun d x G1 s1 H1 e1 o1 rx q1 => PstL.lft q1 fun ds e q2 => by
    obtain ⟨p, xs, h1, r, h2⟩ := rX.items o1 rx e
    exact ⟨p, xs, by rw [h1], h2.imp (fun h => sq_l h.2) (fun h => sq_t h.2), fun l hl => q2 _ _ _ _ (Same.refl _) (o1.nw hl) r⟩

/-! ### isinstance -/
def tyN : D → String
  | .non => "NoneType" | .bl _ => "bool" | .int _ => "int" | .str _ => "str" | .lst _ => "list" | .tup _ => "tuple" | .dct _ => "dict" | .obj _ _ => ""
inductive Ty6 where
  | int | bool | str | list | tuple | dict
def Ty6.nm : Ty6 → String
  | .int => "int" | .bool => "bool" | .str => "str" | .list => "list" | .tuple => "tuple" | .dict => "dict"
def isA : Ty6 → D → Option Bool
  | _, .obj _ _ => none
  | .int, .int _ => some true
  | .int, .bl _ => some true
  | .bool, .bl _ => some true
  | .str, .str _ => some true
  | .list, .lst _ => some true
  | .tuple, .tup _ => some true
  | .dict, .dct _ => some true
  | _, _ => some false
def isAs : List Ty6 → D → Option Bool
  | [], .obj _ _ => none
  | [], _ => some false
  | T :: Ts, d => match isA T d with
    | some true => some true
    | some false => isAs Ts d
    | none => none
def oIsA (T : Ty6) (d : D) : Option D := (isA T d).map D.bl
def oIsAs (Ts : List Ty6) (d : D) : Option D := (isAs Ts d).map D.bl
theorem ty_of {K : PySem.W.Frag} {x : V} {d : D} {T : Ty6} {b : Bool} (o : Ok J.Z B ρ G σ L H) (rx : rX J ρ σ G x d) (h : isA T d = some b) : TyX K H x (.type (tyN d)) := by
  cases d with
  | non => rw [rX.non rx]; exact .base .non
  | bl c => rw [rX.bl rx]; exact .base (.bl _)
  | int c => rw [rX.int rx]; exact .base (.int _)
  | str c => rw [rX.str rx]; exact .base (.str _)
  | lst ds =>
    obtain ⟨a, xs, rfl, h1, _⟩ := rX.lst o rx
    exact .base (.lst h1)
  | tup ds =>
    obtain ⟨a, xs, rfl, h1, _⟩ := rX.tup o rx
    exact .base (.tup h1)
  | dct kvs =>
    obtain ⟨a, rfl, h1⟩ := rX.dct o rx
    exact .base (.dK h1)
  | obj c fs => cases T <;> cases h
theorem kit_is {K : PySem.W.Frag} {d : D} {T : Ty6} {b : Bool} (h : isA T d = some b) : PySem.W.kitOne K (.type (tyN d)) (.type T.nm) = some b := by
  cases d <;> cases T <;> cases h <;> rfl
theorem kit_all {K : PySem.W.Frag} {d : D} : ∀ {Ts : List Ty6} {b : Bool}, isAs Ts d = some b → PySem.W.kitAny K (.type (tyN d)) (Ts.map fun T => .type T.nm) = some b
  | [], b, h => by
    cases d <;> cases h <;> rfl
  | T :: Ts, b, h => by
    unfold isAs at h
    cases e : isA T d with
    | none =>
      rw [e] at h
      cases h
    | some c =>
      have k := kit_is (K := K) e
      rw [e] at h
      show (match PySem.W.kitOne K (.type (tyN d)) (.type T.nm) with
        | some true => some true
        | some false => PySem.W.kitAny K (.type (tyN d)) (Ts.map fun T => .type T.nm)
        | none => none) = some b
      rw [k]
      cases c with
      | true => exact h
      | false => exact kit_all h
theorem ev_isa {K : PySem.W.Frag} {te : TE} {m : MS S D} (T : Ty6) (h : EvX J te ρ m) : Ev J (tCB (rIsi K) (tCons te (tCons (tC (.ty T.nm)) tNil))) ρ (bnd m fun d => lft (oIsA T d)) := fun σ G s H L o Q q =>
  h.run o q fun d x G1 s1 H1 e1 o1 rx q1 => Pst.lft q1 fun z hz q2 => by
    unfold oIsA at hz
    cases e : isA T d with
    | none => rw [e] at hz; cases hz
    | some b =>
      rw [e] at hz
      cases hz
      exact ⟨x, _, _, _, b, rfl, .ty _, ty_of o1 rx e, kit_is e, q2 _ G1 H1 (Same.refl _) o1 (.bl _)⟩
def tTys : List Ty6 → TA
  | [] => tNil
  | T :: Ts => tCons (tC (.ty T.nm)) (tTys Ts)
theorem tTys_run : ∀ {Ts : List Ty6} {Q : List V → Hp → Prop}, Q (Ts.map fun T => .ty T.nm) H → tTys Ts σ H Q
  | [], _, h => h
  | T :: Ts, Q, h => tTys_run (Ts := Ts) (Q := fun xs H2 => Q (.ty T.nm :: xs) H2) h
theorem tys_cls : ∀ Ts : List Ty6, Paired ClsV (Ts.map fun T => V.ty T.nm) (Ts.map fun T => Value.type T.nm)
  | [] => .nil
  | _ :: Ts => .cons (.ty _) (tys_cls Ts)
theorem isAs_one {d : D} : ∀ {Ts : List Ty6} {b : Bool}, isAs Ts d = some b → isA .int d ≠ none
  | [], _, h => by
    cases d <;> first | (cases h; done) | (intro q; cases q)
  | T :: Ts, b, h => by
    cases d with
    | obj c fs => cases T <;> cases h
    | _ => intro q; cases q
theorem ev_isas {K : PySem.W.Frag} {te : TE} {m : MS S D} (Ts : List Ty6) (h : EvX J te ρ m) (hl : Ts.length < 10 := by decide) : Ev J (tCB (rIsiT K) (tCons te (tCons (tTup (tTys Ts)) tNil))) ρ (bnd m fun d => lft (oIsAs Ts d)) := fun σ G s H L o Q q =>
  h.run o q fun d x G1 s1 H1 e1 o1 rx q1 => Pst.lft q1 fun z hz q2 => by
    unfold oIsAs at hz
    cases e : isAs Ts d with
    | none => rw [e] at hz; cases hz
    | some b =>
      rw [e] at hz
      cases hz
      show tTys Ts σ H1 _
      refine tTys_run ?_
      refine ⟨long_ok (by rw [List.length_map]; exact Nat.lt_trans hl (by decide)), fun p hp => ?_⟩
      obtain ⟨sm, o'⟩ := o1.lay (u := .tup (Ts.map fun T => V.ty T.nm)) hp
      obtain ⟨c, hc⟩ := Option.ne_none_iff_exists'.mp (isAs_one e)
      exact ⟨x, p, _, _, _, b, rfl, upd_same, tys_cls Ts, ty_of o' (rX.mono sm rx) hc, kit_all e, q2 _ _ _ sm o' (.bl _)⟩
end
end Dm

set_option Elab.async false
set_option linter.all false
set_option maxRecDepth 100000
namespace Dm
open PySem PySem.Spec PyProof.Rows L2

/-! ### statements -/
/-- how a block ends -/
inductive Fin where
  | nx (ρ : Env) | rt (d : D) | bk (ρ : Env) | ct (ρ : Env)
section
variable {S : Type} (J : Jc S)
def Fo (G : Hp) (E : Ends) (s : S) : Fin → Prop
  | .nx ρ => ∀ σ G' H L, Same G G' → Ok J.Z (J.lay s) ρ G' σ L H → E.nx σ H
  | .rt d => ∀ v G' H, Same G G' → Wd G' (J.lay s) H → Rp J.Z G' v d → E.rt v H
  | .bk ρ => ∀ σ G' H L, Same G G' → Ok J.Z (J.lay s) ρ G' σ L H → E.bk σ H
  | .ct ρ => ∀ σ G' H L, Same G G' → Ok J.Z (J.lay s) ρ G' σ L H → E.ct σ H
def Xo (esc : Env) (G : Hp) (c : Nat) (fs : List D) (s : S) : Prop := ∀ σ dx vs G' H L, Same G G' → Ok J.Z (J.lay s) esc G' σ L H → G' dx = some (.xd ((J.Z.fn c).zip vs)) → (J.Z.fn c).length = vs.length → RpAll J.Z G' vs fs → J.X (.ref (J.Z.cl c)) (some dx) σ H
def Pss {β : Type} (esc : Env) (G : Hp) (E : Ends) (fin : β → Fin) : Rs S β → Prop
  | .stuck => False
  | .ex c fs s => Xo J esc G c fs s
  | .ok b s => Fo J G E s (fin b)
/-- the statement t does what m says; T: what is asked of the ways out -/
def Sv {β : Type} (T : Ends → Prop) (esc : Env) (t : TS) (ρ : Env) (m : MS S β) (fin : β → Fin) : Prop := ∀ σ G s H L, Ok J.Z (J.lay s) ρ G σ L H → ∀ E, T E → Pss J esc G E fin (m s) → t E σ H
end
/-- anywhere; at a def's end (where falling off is to hand back None) -/
def Ta (_ : Ends) : Prop := True
def Tl (E : Ends) : Prop := ∀ σ H, E.rt .non H → E.nx σ H
section
variable {S : Type} {J : Jc S} {α β γ δ τ : Type} {ρ esc : Env} {σ : Sl} {G G' H : Hp} {L : Led} {T : Ends → Prop} {E : Ends}
theorem Fo.mono {s : S} (e : Same G G') : ∀ {f : Fin}, Fo J G E s f → Fo J G' E s f
  | .nx _, h => fun σ G2 H L a b => h σ G2 H L (e.trans a) b
  | .rt _, h => fun v G2 H a b c => h v G2 H (e.trans a) b c
  | .bk _, h => fun σ G2 H L a b => h σ G2 H L (e.trans a) b
  | .ct _, h => fun σ G2 H L a b => h σ G2 H L (e.trans a) b
theorem Xo.mono {s : S} {c : Nat} {fs : List D} (e : Same G G') (h : Xo J esc G c fs s) : Xo J esc G' c fs s := fun σ dx vs G2 H L a b => h σ dx vs G2 H L (e.trans a) b
theorem Pss.mono {fin : β → Fin} (e : Same G G') : ∀ {r : Rs S β}, Pss J esc G E fin r → Pss J esc G' E fin r
  | .stuck, h => h
  | .ex _ _ _, h => Xo.mono e h
  | .ok _ _, h => Fo.mono e h
theorem Pss.lft {fin : β → Fin} {o : Option β} {s : S} {P : Prop} (h : Pss J esc G E fin ((lft o : MS S β) s)) (k : ∀ a, o = some a → Fo J G E s (fin a) → P) : P := by
  cases o with
  | none => exact h.elim
  | some a => exact k a rfl h
theorem Xo.out {s : S} {c : Nat} {fs : List D} (w : Wk ρ esc) (h : Xo J esc G c fs s) : Out J ρ σ L G c fs s := fun dx vs G' H' sm o e1 e2 r => by
  obtain ⟨L', o'⟩ := o.weak w
  exact h σ dx vs G' H' L' sm o' e1 e2 r
theorem EvG.runS {R1 : Sl → Hp → γ → α → Prop} {t : Sl → Hp → (γ → Hp → Prop) → Prop} {m : MS S α} {k : α → MS S β} {s : S} {fin : β → Fin} (h1 : EvG J R1 t ρ m) (o : Ok J.Z (J.lay s) ρ G σ L H) (w : Wk ρ esc)
    (h : Pss J esc G E fin (bnd m k s)) {P : γ → Hp → Prop} (kk : ∀ a b G' s' H', Same G G' → Ok J.Z (J.lay s') ρ G' σ L H' → R1 σ G' b a → Pss J esc G' E fin (k a s') → P b H') : t σ H P := by
  refine h1 σ G s H L o _ ?_
  have h' : Pss J esc G E fin ((m s).go k) := h
  cases e : m s with
  | stuck =>
    rw [e] at h'
    exact h'
  | ex c fs s' =>
    rw [e] at h'
    exact Xo.out w h'
  | ok a s' =>
    rw [e] at h'
    exact fun b G' H' sm o' r => kk a b G' s' H' sm o' r (Pss.mono sm h')
theorem EvL.runS {t : TE} {m : MS S (List D)} {k : List D → MS S β} {s : S} {fin : β → Fin} (h1 : EvL J t ρ m) (o : Ok J.Z (J.lay s) ρ G σ L H) (w : Wk ρ esc)
    (h : Pss J esc G E fin (bnd m k s)) {P : V → Hp → Prop} (kk : ∀ ds p xs G' s' H', Same G G' → Nw J ρ G' σ L s' H' p xs → RpAll J.Z G' xs ds → Pss J esc G' E fin (k ds s') → P (.ref p) H') : t σ H P := by
  refine h1 σ G s H L o _ ?_
  have h' : Pss J esc G E fin ((m s).go k) := h
  cases e : m s with
  | stuck =>
    rw [e] at h'
    exact h'
  | ex c fs s' =>
    rw [e] at h'
    exact Xo.out w h'
  | ok a s' =>
    rw [e] at h'
    exact fun p xs G' H' sm o' r => kk a p xs G' s' H' sm o' r (Pss.mono sm h')
theorem bnd_id (m : MS S α) : bnd m ret = m := by
  funext s
  show (m s).go ret = m s
  cases m s <;> rfl

/-! one statement -/
theorem sv_asg {te : TE} {i : Nat} {m : MS S D} (h : Ev J te ρ m) (w : Wk ρ esc) : Sv J Ta esc (tAsg te (gName i)) ρ m (fun d => .nx (ρ.set i (.P d))) := fun σ G s H L o E _ q => by
  refine h.runS (k := ret) o w (by rw [bnd_id]; exact q) fun d v G1 s1 H1 e1 o1 r q1 => ?_
  obtain ⟨L', o2⟩ := o1.set (i := i) r
  exact q1 _ G1 H1 L' (Same.refl _) o2
/-- x = [..]: the list is the def's own -/
theorem Cells.setO {Z : Wo} {p : Addr} {xs : List V} {ds : List D} (r : RpAll Z G xs ds) : ∀ {e : Env} {σ : Sl} {L : Led} (i : Nat), Cells Z G e σ L → i < e.length → ∃ L' L1 L2, List.Sublist L' L ∧ L' = L1 ++ L2 ∧ Cells Z G (e.set i (.O ds)) (σ.set i (some (.ref p))) (L1 ++ (p, .lst xs) :: L2)
  | _, _, _, _, .nil, h => absurd h (Nat.not_lt_zero _)
  | _, _, _, 0, .U c, _ => ⟨_, [], _, List.Sublist.refl _, rfl, .O r c⟩
  | _, _, _, 0, .P q c, _ => ⟨_, [], _, List.Sublist.refl _, rfl, .O r c⟩
  | _, _, _, 0, .O q c, _ => ⟨_, [], _, List.sublist_cons_self _ _, rfl, .O r c⟩
  | _, _, _, 0, .A f c, _ => ⟨_, [], _, List.Sublist.refl _, rfl, .O r c⟩
  | _, _, _, 0, .Q q c, _ => ⟨_, [], _, (List.sublist_append_right _ _).cons _, rfl, .O r c⟩
  | _, _, _, i + 1, .Q (p := p0) (xs := xs0) (Li := Li) q c, h => by
    obtain ⟨L', L1, L2, s, e, c'⟩ := c.setO (p := p) r i (Nat.lt_of_succ_lt_succ h)
    refine ⟨_, (p0, .lst xs0) :: (Li ++ L1), L2, ((List.Sublist.refl _).append s).cons₂ _, by rw [e, List.cons_append, List.append_assoc], ?_⟩
    rw [List.cons_append, List.append_assoc]
    exact .Q q c'
  | _, _, _, i + 1, .U c, h => by
    obtain ⟨L', L1, L2, s, e, c'⟩ := c.setO (p := p) r i (Nat.lt_of_succ_lt_succ h)
    exact ⟨L', L1, L2, s, e, .U c'⟩
  | _, _, _, i + 1, .P q c, h => by
    obtain ⟨L', L1, L2, s, e, c'⟩ := c.setO (p := p) r i (Nat.lt_of_succ_lt_succ h)
    exact ⟨L', L1, L2, s, e, .P q c'⟩
  | _, _, _, i + 1, .O (p := p0) (xs := xs0) q c, h => by
    obtain ⟨L', L1, L2, s, e, c'⟩ := c.setO (p := p) r i (Nat.lt_of_succ_lt_succ h)
    exact ⟨_, (p0, .lst xs0) :: L1, L2, s.cons₂ _, by rw [e]; rfl, .O q c'⟩
  | _, _, _, i + 1, .A f c, h => by
    obtain ⟨L', L1, L2, s, e, c'⟩ := c.setO (p := p) r i (Nat.lt_of_succ_lt_succ h)
    exact ⟨L', L1, L2, s, e, .A f c'⟩
theorem Nw.set {s : S} {p : Addr} {xs : List V} {ds : List D} {i : Nat} (n : Nw J ρ G σ L s H p xs) (r : RpAll J.Z G xs ds) (hi : i < ρ.length) : ∃ L', Ok J.Z (J.lay s) (ρ.set i (.O ds)) G (σ.set i (some (.ref p))) L' H := by
  obtain ⟨c, w⟩ := n
  obtain ⟨L', L1, L2, sb, e, c'⟩ := c.setO (p := p) r i hi
  refine ⟨_, c', ?_⟩
  have w1 := w.sub ((sb.append (List.Sublist.refl (J.lay s))).cons₂ (p, HO.lst xs))
  refine w1.perm ?_
  rw [e, List.append_assoc, List.append_assoc, List.cons_append]
  exact List.perm_middle
theorem sv_asgL {te : TE} {i : Nat} {m : MS S (List D)} (h : EvL J te ρ m) (w : Wk ρ esc) (hi : i < ρ.length := by decide) : Sv J Ta esc (tAsg te (gName i)) ρ m (fun ds => .nx (ρ.set i (.O ds))) := fun σ G s H L o E _ q => by
  refine h.runS (k := ret) o w (by rw [bnd_id]; exact q) fun ds p xs G1 s1 H1 e1 n r q1 => ?_
  obtain ⟨L', o2⟩ := n.set r hi
  exact q1 _ G1 H1 L' (Same.refl _) o2
theorem sv_ret {te : TE} {m : MS S D} (h : Ev J te ρ m) (w : Wk ρ esc) : Sv J T esc (tRet te) ρ m Fin.rt := fun σ G s H L o E _ q =>
  h.runS (k := ret) (fin := Fin.rt) o w (by rw [bnd_id]; exact q) fun d v G1 s1 H1 e1 o1 r q1 => q1 v G1 H1 (Same.refl _) o1.wd r
theorem sv_retN : Sv J T esc tRetN ρ (ret .non) Fin.rt := fun σ G s H L o E _ q => q .non G H (Same.refl _) o.wd .non
theorem sv_drop {te : TE} {m : MS S D} (h : Ev J te ρ m) (w : Wk ρ esc) : Sv J Ta esc (tDrop te) ρ m (fun _ => .nx ρ) := fun σ G s H L o E _ q =>
  h.runS (k := ret) (fin := fun _ => Fin.nx ρ) o w (by rw [bnd_id]; exact q) fun d v G1 s1 H1 e1 o1 r q1 => q1 σ G1 H1 L (Same.refl _) o1
/-- nothing; the end of a def -/
theorem sv_next : Sv J T esc tNext ρ (ret ()) (fun _ => .nx ρ) := fun σ G s H L o E _ q => q σ G H L (Same.refl _) o
theorem sv_end : Sv J Tl esc tNext ρ (ret .non) Fin.rt := fun σ G s H L o E ht q => ht σ H (q .non G H (Same.refl _) o.wd .non)
theorem sv_break : Sv J T esc tBreak ρ (ret ()) (fun _ => .bk ρ) := fun σ G s H L o E _ q => q σ G H L (Same.refl _) o
theorem sv_cont : Sv J T esc tCont ρ (ret ()) (fun _ => .ct ρ) := fun σ G s H L o E _ q => q σ G H L (Same.refl _) o
/-! less is asked -/
def FinW : Fin → Fin → Prop
  | .nx ρ, .nx ρ' => Wk ρ ρ'
  | .rt d, .rt d' => d = d'
  | .bk ρ, .bk ρ' => Wk ρ ρ'
  | .ct ρ, .ct ρ' => Wk ρ ρ'
  | _, _ => False
theorem Fo.weak {s : S} {f f' : Fin} (w : FinW f f') (h : Fo J G E s f') : Fo J G E s f := by
  cases f <;> cases f' <;> first | exact w.elim | skip
  · exact fun σ G2 H L a o => let ⟨L', o'⟩ := o.weak w; h σ G2 H L' a o'
  · cases w
    exact h
  · exact fun σ G2 H L a o => let ⟨L', o'⟩ := o.weak w; h σ G2 H L' a o'
  · exact fun σ G2 H L a o => let ⟨L', o'⟩ := o.weak w; h σ G2 H L' a o'
/-- the ends in other words -/
theorem sv_to {t : TS} {m : MS S α} {fin : α → Fin} {fin' : β → Fin} (g : α → β) (h : Sv J T esc t ρ m fin) (w : ∀ a, FinW (fin a) (fin' (g a))) : Sv J T esc t ρ (bnd m fun a => ret (g a)) fin' := fun σ G s H L o E ht q => h σ G s H L o E ht (by
  have q' : Pss J esc G E fin' ((m s).go fun a => ret (g a)) := q
  cases e : m s with
  | stuck =>
    rw [e] at q'
    exact q'
  | ex c fs s' =>
    rw [e] at q'
    exact q'
  | ok a s' =>
    rw [e] at q'
    exact Fo.weak (w a) q')
theorem sv_wk {t : TS} {m : MS S α} {fin : α → Fin} {ρ' : Env} (w : Wk ρ ρ') (h : Sv J T esc t ρ' m fin) : Sv J T esc t ρ m fin := fun σ G s H L o E ht q => by
  obtain ⟨L', o'⟩ := o.weak w
  exact h σ G s H L' o' E ht q
/-- an own list stays as it is from now on -/
theorem Cells.frz {Z : Wo} {i : Nat} {ds : List D} {p : Addr} {xs : List V} : ∀ {e : Env} {σ : Sl} {L : Led} {i : Nat}, Cells Z G e σ L → e[i]? = some (.O ds) → ∃ (p : Addr) (xs : List V) (L1 L2 : Led), L = L1 ++ (p, .lst xs) :: L2 ∧ RpAll Z G xs ds ∧
      ∀ G', Same G G' → Rp Z G' (.ref p) (.lst ds) → Cells Z G' (e.set i (.P (.lst ds))) σ (L1 ++ L2)
  | _, _, _, _, .nil, h => by simp at h
  | _, _, _, 0, .U c, h => by simp at h
  | _, _, _, 0, .P r c, h => by simp at h
  | _, _, _, 0, .O r c, h => by
    simp at h
    subst h
    exact ⟨_, _, [], _, rfl, r, fun G' s q => .P q (c.mono s)⟩
  | _, _, _, 0, .A f c, h => by simp at h
  | _, _, _, i + 1, .U c, h => by
    obtain ⟨p, xs, L1, L2, a2, a3, a4⟩ := c.frz (i := i) (p := 0) (xs := []) (by simpa using h)
    exact ⟨p, xs, L1, L2, a2, a3, fun G' s q => .U (a4 G' s q)⟩
  | _, _, _, i + 1, .P r c, h => by
    obtain ⟨p, xs, L1, L2, a2, a3, a4⟩ := c.frz (i := i) (p := 0) (xs := []) (by simpa using h)
    exact ⟨p, xs, L1, L2, a2, a3, fun G' s q => .P (r.mono s) (a4 G' s q)⟩
  | _, _, _, i + 1, .O (p := p0) (xs := xs0) r c, h => by
    obtain ⟨p, xs, L1, L2, a2, a3, a4⟩ := c.frz (i := i) (p := 0) (xs := []) (by simpa using h)
    exact ⟨p, xs, (p0, .lst xs0) :: L1, L2, by rw [a2]; rfl, a3, fun G' s q => .O (r.mono s) (a4 G' s q)⟩
  | _, _, _, i + 1, .A f c, h => by
    obtain ⟨p, xs, L1, L2, a2, a3, a4⟩ := c.frz (i := i) (p := 0) (xs := []) (by simpa using h)
    exact ⟨p, xs, L1, L2, a2, a3, fun G' s q => .A (fun G2 s2 => f G2 (s.trans s2)) (a4 G' s q)⟩
  | _, _, _, 0, .Q f c, h => by simp at h
  | _, _, _, i + 1, .Q (p := p0) (xs := xs0) (Li := Li) f c, h => by
    obtain ⟨p, xs, L1, L2, a2, a3, a4⟩ := c.frz (i := i) (p := 0) (xs := []) (by simpa using h)
    refine ⟨p, xs, (p0, .lst xs0) :: (Li ++ L1), L2, by rw [a2, List.cons_append, List.append_assoc], a3, fun G' s q => ?_⟩
    rw [List.cons_append, List.append_assoc]
    exact .Q (f.mono s) (a4 G' s q)
theorem Ok.frz {B : Led} {i : Nat} {ds : List D} (o : Ok J.Z B ρ G σ L H) (h : ρ[i]? = some (.O ds)) : ∃ G' L', Same G G' ∧ Ok J.Z B (ρ.set i (.P (.lst ds))) G' σ L' H := by
  obtain ⟨c, w⟩ := o
  obtain ⟨p, xs, L1, L2, e, r, k⟩ := c.frz (i := i) (p := 0) (xs := []) h
  subst e
  have w' : Wd G ((p, .lst xs) :: (L1 ++ L2 ++ B)) H := w.perm (by
    rw [List.append_assoc, List.append_assoc, List.cons_append]
    exact List.perm_middle.symm)
  refine ⟨_, _, w'.frzS, k _ w'.frzS (.lst upd_same (r.mono w'.frzS)), ?_⟩
  exact w'.frz
theorem sv_frz {t : TS} {m : MS S α} {fin : α → Fin} {i : Nat} {ds : List D} (hi : ρ[i]? = some (.O ds)) (h : Sv J T esc t (ρ.set i (.P (.lst ds))) m fin) : Sv J T esc t ρ m fin := fun σ G s H L o E ht q => by
  obtain ⟨G', L', sm, o'⟩ := o.frz hi
  exact h σ G' s H L' o' E ht (Pss.mono sm q)

/-! two statements -/
theorem Pss.bind {m : MS S α} {k : α → MS S β} {fin1 : α → Fin} {fin : β → Fin} {E1 : Ends} {s : S} (h : Pss J esc G E fin (bnd m k s)) (kk : ∀ a s', Pss J esc G E fin (k a s') → Fo J G E1 s' (fin1 a)) : Pss J esc G E1 fin1 (m s) := by
  have h' : Pss J esc G E fin ((m s).go k) := h
  cases e : m s with
  | stuck =>
    rw [e] at h'
    exact h'
  | ex c fs s' =>
    rw [e] at h'
    exact h'
  | ok a s' =>
    rw [e] at h'
    exact kk a s' h'
theorem sv_seq {t u : TS} {m : MS S α} {k : α → MS S β} {e : α → Env} {fin : β → Fin} (h1 : Sv J Ta esc t ρ m (fun a => .nx (e a))) (h2 : ∀ a, Sv J T esc u (e a) (k a) fin) : Sv J T esc (tSeq t u) ρ (bnd m k) fin := fun σ G s H L o E ht q =>
  h1 σ G s H L o { E with nx := u E } trivial (q.bind (E1 := { E with nx := u E }) fun a s' q1 σ1 G1 H1 L1 sm o1 => h2 a σ1 G1 s' H1 L1 o1 E ht (Pss.mono sm q1))
/-- what a statement may do beside: hand back; leave the loop; go on with it -/
inductive Fl (α β : Type) where
  | nx (a : α) | rt (d : D) | bk (b : β) | ct (b : β)
def Fl.fin (e : α → Env) (eb : β → Env) : Fl α β → Fin
  | .nx a => .nx (e a)
  | .rt d => .rt d
  | .bk b => .bk (eb b)
  | .ct b => .ct (eb b)
/-- a block that may also hand back -/
inductive Fr (α : Type) where
  | nx (a : α) | rt (d : D)
def Fr.fin (e : α → Env) : Fr α → Fin
  | .nx a => .nx (e a)
  | .rt d => .rt d
/-- the same, what follows hands back -/
theorem sv_seqR {t u : TS} {m : MS S (Fr α)} {k : α → MS S D} {e : α → Env} (h1 : Sv J Ta esc t ρ m (Fr.fin e)) (h2 : ∀ a, Sv J T esc u (e a) (k a) Fin.rt) : Sv J T esc (tSeq t u) ρ (bnd m fun r => match r with | .nx a => k a | .rt d => ret d) Fin.rt := fun σ G s H L o E ht q =>
  h1 σ G s H L o { E with nx := u E } trivial (q.bind (E1 := { E with nx := u E }) fun a s' q1 => by
    cases a with
    | nx a => exact fun σ1 G1 H1 L1 sm o1 => h2 a σ1 G1 s' H1 L1 o1 E ht (Pss.mono sm q1)
    | rt d => exact q1)
theorem sv_seqF {t u : TS} {m : MS S (Fl α γ)} {k : α → MS S (Fl β γ)} {e : α → Env} {e' : β → Env} {eb : γ → Env} (h1 : Sv J Ta esc t ρ m (Fl.fin e eb)) (h2 : ∀ a, Sv J T esc u (e a) (k a) (Fl.fin e' eb)) :
    Sv J T esc (tSeq t u) ρ (bnd m fun r => match r with | .nx a => k a | .rt d => ret (.rt d) | .bk b => ret (.bk b) | .ct b => ret (.ct b)) (Fl.fin e' eb) := fun σ G s H L o E ht q =>
  h1 σ G s H L o { E with nx := u E } trivial (q.bind (E1 := { E with nx := u E }) fun a s' q1 => by
    cases a with
    | nx a => exact fun σ1 G1 H1 L1 sm o1 => h2 a σ1 G1 s' H1 L1 o1 E ht (Pss.mono sm q1)
    | rt d => exact q1
    | bk d => exact q1
    | ct d => exact q1)
theorem sv_if {tt : TT} {tu tw : TS} {mt : MS S Bool} {m1 m2 : MS S β} {fin : β → Fin} (h : EvT J tt ρ mt) (w : Wk ρ esc) (h1 : Sv J T esc tu ρ m1 fin) (h2 : Sv J T esc tw ρ m2 fin) : Sv J T esc (tIfS tt tu tw) ρ (bnd mt fun b => if b = true then m1 else m2) fin := fun σ G s H L o E ht q =>
  h.runS o w q fun b c G1 s1 H1 e1 o1 hc q1 => by
    cases hc
    cases b with
    | true => exact h1 σ G1 s1 H1 L o1 E ht q1
    | false => exact h2 σ G1 s1 H1 L o1 E ht q1
/-- if: hand back; the rest is the else -/
theorem sv_ifR {tt : TT} {tu tw tz : TS} {mt : MS S Bool} {m1 m2 : MS S D} (h : EvT J tt ρ mt) (w : Wk ρ esc) (h1 : Sv J Ta esc tu ρ m1 Fin.rt) (h2 : Sv J T esc (tSeq tw tz) ρ m2 Fin.rt) : Sv J T esc (tSeq (tIfS tt tu tw) tz) ρ (bnd mt fun b => if b = true then m1 else m2) Fin.rt := fun σ G s H L o E ht q =>
  h.runS o w q fun b c G1 s1 H1 e1 o1 hc q1 => by
    cases hc
    cases b with
    | true => exact h1 σ G1 s1 H1 L o1 { E with nx := tz E } trivial (by
        have q2 : Pss J esc G1 E Fin.rt (m1 s1) := q1
        cases e : m1 s1 with
        | stuck => rw [e] at q2; exact q2
        | ex c fs s' => rw [e] at q2; exact q2
        | ok a s' => rw [e] at q2; exact q2)
    | false => exact h2 σ G1 s1 H1 L o1 E ht q1
/-- tNext ahead is nothing -/
theorem sv_skip {tz : TS} {m : MS S β} {fin : β → Fin} (h : Sv J T esc tz ρ m fin) : Sv J T esc (tSeq tNext tz) ρ m fin := h
end
end Dm

set_option Elab.async false
set_option linter.all false
set_option maxRecDepth 100000
namespace Dm
open PySem PySem.Spec PyProof.Rows L2
section
variable {S : Type} {J : Jc S} {α β γ δ τ : Type} {ρ esc : Env} {σ : Sl} {G G' H : Hp} {L : Led} {T : Ends → Prop} {E : Ends}
/-! ### a block that never goes on -/
inductive Fx (γ : Type) where
  | rt (d : D) | bk (b : γ) | ct (b : γ)
def Fx.fin (eb : γ → Env) : Fx γ → Fin
  | .rt d => .rt d
  | .bk b => .bk (eb b)
  | .ct b => .ct (eb b)
def Fx.up : Fx γ → Fl α γ
  | .rt d => .rt d
  | .bk b => .bk b
  | .ct b => .ct b
theorem sv_ifF {tt : TT} {tu tw tz : TS} {mt : MS S Bool} {m1 : MS S (Fx γ)} {m2 : MS S (Fl α γ)} {e : α → Env} {eb : γ → Env} (h : EvT J tt ρ mt) (w : Wk ρ esc) (h1 : Sv J Ta esc tu ρ m1 (Fx.fin eb)) (h2 : Sv J T esc (tSeq tw tz) ρ m2 (Fl.fin e eb)) :
    Sv J T esc (tSeq (tIfS tt tu tw) tz) ρ (bnd mt fun b => if b = true then bnd m1 (fun r => ret r.up) else m2) (Fl.fin e eb) := fun σ G s H L o E ht q =>
  h.runS o w q fun b c G1 s1 H1 e1 o1 hc q1 => by
    cases hc
    cases b with
    | true =>
      refine h1 σ G1 s1 H1 L o1 { E with nx := tz E } trivial (Pss.bind (k := fun r => ret r.up) (m := m1) q1 fun a s' q2 => ?_)
      cases a <;> exact q2
    | false => exact h2 σ G1 s1 H1 L o1 E ht q1

/-! ### targets -/
def noO : Option Cell → Bool
  | some (.O _) => false
  | some (.Q _) => false
  | _ => true
/-- the target g takes data un-told apart; ex: the slots behind it; js: the slots that it sets -/
structure Tg (J : Jc S) (g : TG) (un : D → Option τ) (ex : τ → Env → Env) (js : List Nat) : Prop where
  go : ∀ d t ρ x σ G s H L, un d = some t → Ok J.Z (J.lay s) ρ G σ L H → Rp J.Z G x d → ∀ Q : Sl → Hp → Prop, (∀ σ' L', Ok J.Z (J.lay s) (ex t ρ) G σ' L' H → σ'.length = σ.length → (∀ i, i ∉ js → σ'[i]? = σ[i]?) → ((∀ j ∈ js, noO ρ[j]? = true) → L' = L) → Q σ' H) → g x σ H Q
theorem Cells.setP {Z : Wo} {v : V} {d : D} (r : Rp Z G v d) : ∀ {e : Env} {σ : Sl} {L : Led} (i : Nat), noO e[i]? = true → Cells Z G e σ L → Cells Z G (e.set i (.P d)) (σ.set i (some v)) L
  | _, _, _, _, _, .nil => .nil
  | _, _, _, 0, _, .U c => .P r c
  | _, _, _, 0, _, .P q c => .P r c
  | _, _, _, 0, h, .O q c => absurd h Bool.false_ne_true
  | _, _, _, 0, h, .Q q c => absurd h Bool.false_ne_true
  | _, _, _, 0, _, .A f c => .P r c
  | _, _, _, i + 1, h, .U c => .U (c.setP r i (by simpa using h))
  | _, _, _, i + 1, h, .P q c => .P q (c.setP r i (by simpa using h))
  | _, _, _, i + 1, h, .O q c => .O q (c.setP r i (by simpa using h))
  | _, _, _, i + 1, h, .A f c => .A f (c.setP r i (by simpa using h))
  | _, _, _, i + 1, h, .Q f c => .Q f (c.setP r i (by simpa using h))
theorem Ok.setP {B : Led} {i : Nat} {v : V} {d : D} (o : Ok J.Z B ρ G σ L H) (r : Rp J.Z G v d) : ∃ L', Ok J.Z B (ρ.set i (.P d)) G (σ.set i (some v)) L' H ∧ (noO ρ[i]? = true → L' = L) := by
  by_cases h : noO ρ[i]? = true
  · exact ⟨L, ⟨o.1.setP r i h, o.2⟩, fun _ => rfl⟩
  · obtain ⟨L', o'⟩ := o.set (i := i) r
    exact ⟨L', o', fun h' => absurd h' h⟩
def un1 (d : D) : Option D := some d
theorem tg_name (i : Nat) : Tg J (gName i) un1 (fun d ρ => ρ.set i (.P d)) [i] where
  go := fun d t ρ x σ G s H L hu o r Q q => by
    cases hu
    obtain ⟨L', o', hL⟩ := o.setP (i := i) r
    refine q _ L' o' (by simp) (fun j hj => ?_) fun h => hL (h i (by simp))
    rw [List.getElem?_set_ne]
    exact fun e => hj (by simp [e])
def un2 : D → Option (D × D)
  | .tup [a, b] => some (a, b)
  | _ => none
theorem set_O {ρ : Env} {i j : Nat} {d : D} (h : noO ρ[j]? = true) : noO (ρ.set i (.P d))[j]? = true := by
  by_cases hij : i = j
  · subst hij
    by_cases hl : i < ρ.length
    · rw [List.getElem?_set_self hl]
      rfl
    · rw [List.getElem?_eq_none (by simpa using hl)]
      rfl
  · rw [List.getElem?_set_ne hij]
    exact h
theorem un2_some {d : D} {t : D × D} (h : un2 d = some t) : d = .tup [t.1, t.2] := by
  unfold un2 at h
  split at h
  · cases h
    rfl
  · cases h
theorem tg_pair {K : PySem.W.Frag} (i j : Nat) : Tg J (gTup K 2 (gCons (gName i) (gCons (gName j) gNil))) un2 (fun t ρ => (ρ.set i (.P t.1)).set j (.P t.2)) [i, j] where
  go := fun d t ρ x σ G s H L hu o r Q q => by
    have e := un2_some hu
    subst e
    obtain ⟨a, xs, rfl, h1, r1⟩ := rp_ref r
    cases r1 with
    | cons ra r2 =>
      cases r2 with
      | cons rb r3 =>
        cases r3
        obtain ⟨L1, o1, h2⟩ := o.setP (i := i) ra
        obtain ⟨L2, o2, h3⟩ := o1.setP (i := j) rb
        refine ⟨a, _, rfl, sq_t (o.same _ _ h1), rfl, _, _, rfl, _, _, rfl, rfl, ?_⟩
        refine q _ L2 o2 (by simp) (fun k hk => ?_) fun h => ?_
        · rw [List.getElem?_set_ne (fun e => hk (by simp [e])), List.getElem?_set_ne (fun e => hk (by simp [e]))]
        · rw [h3 (set_O (h j (by simp))), h2 (h i (by simp))]
def un3 : D → Option (D × D × D)
  | .tup [a, b, c] => some (a, b, c)
  | _ => none
theorem un3_some {d : D} {t : D × D × D} (h : un3 d = some t) : d = .tup [t.1, t.2.1, t.2.2] := by
  unfold un3 at h
  split at h
  · cases h
    rfl
  · cases h
theorem tg_three {K : PySem.W.Frag} (i j k : Nat) : Tg J (gTup K 3 (gCons (gName i) (gCons (gName j) (gCons (gName k) gNil)))) un3 (fun t ρ => ((ρ.set i (.P t.1)).set j (.P t.2.1)).set k (.P t.2.2)) [i, j, k] where
  go := fun d t ρ x σ G s H L hu o r Q q => by
    have e := un3_some hu
    subst e
    obtain ⟨a, xs, rfl, h1, r1⟩ := rp_ref r
    cases r1 with
    | cons ra r2 =>
      cases r2 with
      | cons rb r3 =>
        cases r3 with
        | cons rc r4 =>
          cases r4
          obtain ⟨L1, o1, h2⟩ := o.setP (i := i) ra
          obtain ⟨L2, o2, h3⟩ := o1.setP (i := j) rb
          obtain ⟨L3, o3, h4⟩ := o2.setP (i := k) rc
          refine ⟨a, _, rfl, sq_t (o.same _ _ h1), rfl, _, _, rfl, _, _, rfl, _, _, rfl, rfl, ?_⟩
          refine q _ L3 o3 (by simp) (fun l hk => ?_) fun h => ?_
          · rw [List.getElem?_set_ne (fun e => hk (by simp [e])), List.getElem?_set_ne (fun e => hk (by simp [e])), List.getElem?_set_ne (fun e => hk (by simp [e]))]
          · rw [h4 (set_O (set_O (h k (by simp)))), h3 (set_O (h j (by simp))), h2 (h i (by simp))]
/-- a, b = e -/
theorem sv_asgT {te : TE} {g : TG} {un : D → Option τ} {ex : τ → Env → Env} {js : List Nat} {m : MS S D} (h : Ev J te ρ m) (w : Wk ρ esc) (hg : Tg J g un ex js) : Sv J Ta esc (tAsg te g) ρ (bnd m fun d => lft (un d)) (fun t => .nx (ex t ρ)) := fun σ G s H L o E _ q =>
  h.runS o w q fun d v G1 s1 H1 e1 o1 r q1 => Pss.lft q1 fun t ht q2 => hg.go d t ρ v σ G1 s1 H1 L ht o1 r _ fun σ' L' o2 _ _ _ => q2 σ' G1 H1 L' (Same.refl _) o2

/-! ### walks -/
def YD (Z : Wo) (G0 : Hp) (ds : List D) (i : Nat) (H : Hp) (x : V) (H' : Hp) : Prop := ∃ d, ds[i]? = some d ∧ ((H' = H ∧ Rp Z G0 x d) ∨ ∃ q u v du dv, x = .ref q ∧ H q = none ∧ H' = upd H q (.tup [u, v]) ∧ d = .tup [du, dv] ∧ Rp Z G0 u du ∧ Rp Z G0 v dv)
def PstI (J : Jc S) (ρ : Env) (σ : Sl) (L : Led) (G : Hp) (R : It → Hp → Prop) : Rs S (List D) → Prop
  | .stuck => False
  | .ex c fs s => Out J ρ σ L G c fs s
  | .ok ds s => ∀ I G' H, Same G G' → Ok J.Z (J.lay s) ρ G' σ L H → Walk I ds.length (fun H => Same G' H) (YD J.Z G' ds) → R I H
/-- what is walked gives the data that m says, one by one -/
def EvI (J : Jc S) (wi : TI) (ρ : Env) (m : MS S (List D)) : Prop := ∀ σ G s H L, Ok J.Z (J.lay s) ρ G σ L H → ∀ R, PstI J ρ σ L G R (m s) → wi σ H R
theorem PstI.mono {R : It → Hp → Prop} (e : Same G G') : ∀ {r : Rs S (List D)}, PstI J ρ σ L G R r → PstI J ρ σ L G' R r
  | .stuck, h => h
  | .ex _ _ _, h => Out.mono e h
  | .ok _ _, h => fun I G2 H2 a c => h I G2 H2 (e.trans a) c
theorem EvG.runI {R1 : Sl → Hp → γ → α → Prop} {t : Sl → Hp → (γ → Hp → Prop) → Prop} {m : MS S α} {k : α → MS S (List D)} {s : S} {R : It → Hp → Prop} (h1 : EvG J R1 t ρ m) (o : Ok J.Z (J.lay s) ρ G σ L H)
    (h : PstI J ρ σ L G R (bnd m k s)) {P : γ → Hp → Prop} (kk : ∀ a b G' s' H', Same G G' → Ok J.Z (J.lay s') ρ G' σ L H' → R1 σ G' b a → PstI J ρ σ L G' R (k a s') → P b H') : t σ H P := by
  refine h1 σ G s H L o _ ?_
  have h' : PstI J ρ σ L G R ((m s).go k) := h
  cases e : m s with
  | stuck =>
    rw [e] at h'
    exact h'
  | ex c fs s' =>
    rw [e] at h'
    exact h'
  | ok a s' =>
    rw [e] at h'
    exact fun b G' H' sm o' r => kk a b G' s' H' sm o' r (PstI.mono sm h')
theorem PstI.lft {R : It → Hp → Prop} {o : Option (List D)} {s : S} {P : Prop} (h : PstI J ρ σ L G R ((lft o : MS S (List D)) s)) (k : ∀ a, o = some a → PstI J ρ σ L G R (.ok a s) → P) : P := by
  cases o with
  | none => exact h.elim
  | some a => exact k a rfl h
theorem RpAll.at {Z : Wo} {xs : List V} {ds : List D} {i : Nat} {x : V} (r : RpAll Z G xs ds) (h : xs[i]? = some x) : ∃ d, ds[i]? = some d ∧ Rp Z G x d := r.getV h
theorem wd_list {Z : Wo} {K : PySem.W.Frag} {a : Addr} {xs : List V} {ds : List D} (h : G a = some (.lst xs)) (r : RpAll Z G xs ds) : Walk (Itl K a) ds.length (fun H => Same G H) (YD Z G ds) := by
  rw [← r.length]
  refine walk_list.mono (fun H s => sq_l (s _ _ h)) fun i H x H' hi s y => ?_
  obtain ⟨d, hd, rd⟩ := r.at y.2
  exact ⟨d, hd, .inl ⟨y.1, rd⟩⟩
theorem wd_tup {Z : Wo} {K : PySem.W.Frag} {a : Addr} {xs : List V} {ds : List D} (h : G a = some (.tup xs)) (r : RpAll Z G xs ds) : Walk (Itt K a) ds.length (fun H => Same G H) (YD Z G ds) := by
  rw [← r.length]
  refine walk_tup.mono (fun H s => sq_t (s _ _ h)) fun i H x H' hi s y => ?_
  obtain ⟨d, hd, rd⟩ := r.at y.2
  exact ⟨d, hd, .inl ⟨y.1, rd⟩⟩
/-- for x in e: a list or a tuple -/
def iSq (K : PySem.W.Frag) (tl : TE) : TI := fun σ H R => tl σ H fun x H1 => ∃ a, x = .ref a ∧ (((∃ xs, SqL K H1 a xs) ∧ R (Itl K a) H1) ∨ ((∃ xs, SqT K H1 a xs) ∧ R (Itt K a) H1))
theorem pi_sq {X : Cx} {tg l : Expr} {tl : TE} (hl : PE X l tl) : PI X tg l (iSq X.K tl) := by
  refine ⟨fun pins s σ H R I h => thn (hl.run pins s σ H _ I h) fun v s1 ⟨x, H1, I1, r1, a, e, q⟩ => ?_⟩
  subst e
  cases r1
  rcases q with ⟨⟨xs, hq⟩, q⟩ | ⟨⟨xs, hq⟩, q⟩
  · obtain ⟨its, rv, p, hz⟩ := I1.list hq
    exact wpAny_pyIter_list p.isList (pi_one (tk := s1.toks) I1 _ (turn_list a _) ⟨_, Heap.get?_push_size _ rfl, rfl, rfl⟩ q)
  · obtain ⟨its, rv, p, hz⟩ := I1.tuple hq
    exact wpAny_pyIter_tuple (show s1.heap.IsTuple a its.toArray from p) (pi_one (tk := s1.toks) I1 _ (turn_tuple a _) ⟨_, Heap.get?_push_size _ rfl, rfl, rfl⟩ q)
theorem Rp.items {Z : Wo} {v : V} {d : D} {ds : List D} (h : Rp Z G v d) (e : items d = some ds) : ∃ p xs, v = .ref p ∧ RpAll Z G xs ds ∧ (G p = some (.lst xs) ∨ G p = some (.tup xs)) := by
  cases h with
  | lst ha r =>
    cases e
    exact ⟨_, _, rfl, r, .inl ha⟩
  | tup ha r =>
    cases e
    exact ⟨_, _, rfl, r, .inr ha⟩
  | _ => cases e
theorem ei_sq {K : PySem.W.Frag} {tl : TE} {m : MS S D} (h : Ev J tl ρ m) : EvI J (iSq K tl) ρ (bnd m fun d => lft (items d)) := fun σ G s H L o R q =>
  h.runI o q fun d x G1 s1 H1 e1 o1 r q1 => PstI.lft q1 fun ds e q2 => by
    obtain ⟨p, xs, h1, r2, h2⟩ := Rp.items r e
    refine ⟨p, h1, ?_⟩
    rcases h2 with h2 | h2
    · exact .inl ⟨⟨xs, sq_l (o1.same _ _ h2)⟩, q2 _ G1 H1 (Same.refl _) o1 (wd_list h2 r2)⟩
    · exact .inr ⟨⟨xs, sq_t (o1.same _ _ h2)⟩, q2 _ G1 H1 (Same.refl _) o1 (wd_tup h2 r2)⟩
def rgD (lo : Int) (n : Nat) : List D := (List.range n).map fun (i : Nat) => D.int (lo + (i : Int))
theorem rgD_len (lo : Int) (n : Nat) : (rgD lo n).length = n := by
  unfold rgD
  simp
theorem rgD_at (lo : Int) (n : Nat) {i : Nat} (h : i < n) : (rgD lo n)[i]? = some (.int (lo + (i : Int))) := by
  unfold rgD
  simp [h]
def rg1 : List D → Option (List D)
  | [.int j] => if j.natAbs < 2305843009213693952 then some (rgD 0 j.toNat) else none
  | _ => none
def rg2 : List D → Option (List D)
  | [.int i, .int j] => if i.natAbs < 2305843009213693952 ∧ j.natAbs < 2305843009213693952 then some (rgD i (j - i).toNat) else none
  | _ => none
theorem wd_range {Z : Wo} {lo : Int} {n : Nat} : Walk (Itr lo n) (rgD lo n).length (fun H => Same G H) (YD Z G (rgD lo n)) := by
  rw [rgD_len]
  refine walk_range.mono (fun H s => trivial) fun i H x H' hi s y => ?_
  refine ⟨_, rgD_at lo n hi, .inl ⟨y.1, ?_⟩⟩
  rw [y.2]
  exact .int _
theorem ei_r1 {ta : TA} {m : MS S (List D)} (h : EvA J ta ρ m) : EvI J (iRng1 ta) ρ (bnd m fun ds => lft (rg1 ds)) := fun σ G s H L o R q =>
  h.runI o q fun ds xs G1 s1 H1 e1 o1 r q1 => PstI.lft q1 fun es e q2 => by
    unfold rg1 at e
    split at e
    · rename_i j
      split at e
      · rename_i hj
        cases e
        cases r with
        | cons r1 r2 =>
          cases r1
          cases r2
          exact ⟨j, rfl, by omega, by omega, q2 _ G1 H1 (Same.refl _) o1 wd_range⟩
      · cases e
    · cases e
theorem ei_r2 {ta : TA} {m : MS S (List D)} (h : EvA J ta ρ m) : EvI J (iRng2 ta) ρ (bnd m fun ds => lft (rg2 ds)) := fun σ G s H L o R q =>
  h.runI o q fun ds xs G1 s1 H1 e1 o1 r q1 => PstI.lft q1 fun es e q2 => by
    unfold rg2 at e
    split at e
    · rename_i i j
      split at e
      · rename_i hj
        cases e
        cases r with
        | cons r1 r2 =>
          cases r1
          cases r2 with
          | cons r3 r4 =>
            cases r3
            cases r4
            exact ⟨i, j, rfl, ⟨by omega, by omega, by omega, by omega⟩, q2 _ G1 H1 (Same.refl _) o1 wd_range⟩
      · cases e
    · cases e

/-! ### for -/
def forN (un : D → Option τ) (f : τ → α → MS S α) : List D → α → MS S α
  | [], a => ret a
  | d :: ds, a => bnd (lft (un d)) fun t => bnd (f t a) fun b => forN un f ds b
def forF (un : D → Option τ) (f : τ → α → MS S (Fl α α)) : List D → α → MS S (Fr α)
  | [], a => ret (.nx a)
  | d :: ds, a => bnd (lft (un d)) fun t => bnd (f t a) fun r => match r with
    | .nx b => forF un f ds b
    | .ct b => forF un f ds b
    | .bk b => ret (.nx b)
    | .rt e => ret (.rt e)
theorem YD.ok {Z : Wo} {B : Led} {G0 : Hp} {ds : List D} {i : Nat} {x : V} {H' : Hp} (s : Same G0 G) (o : Ok Z B ρ G σ L H) (y : YD Z G0 ds i H x H') : ∃ d G', ds[i]? = some d ∧ Same G G' ∧ Ok Z B ρ G' σ L H' ∧ Rp Z G' x d := by
  obtain ⟨d, hd, y⟩ := y
  rcases y with ⟨rfl, r⟩ | ⟨q, u, v, du, dv, rfl, hq, rfl, rfl, r1, r2⟩
  · exact ⟨d, G, hd, Same.refl _, o, r.mono s⟩
  · obtain ⟨sm, o'⟩ := o.lay (u := .tup [u, v]) hq
    exact ⟨_, _, hd, sm, o', .tup upd_same (.cons (r1.mono (s.trans sm)) (.cons (r2.mono (s.trans sm)) .nil))⟩
theorem sv_forN {wi : TI} {g : TG} {tb : TS} {un : D → Option τ} {ex : τ → Env → Env} {js : List Nat} {m : MS S (List D)} {f : τ → α → MS S α} (e : α → Env) (a0 : α) (h : EvI J wi (e a0) m) (w : Wk (e a0) esc) (hg : Tg J g un ex js)
    (hb : ∀ t a, Sv J Ta esc tb (ex t (e a)) (f t a) (fun b => .nx (e b))) : Sv J Ta esc (tFor wi g tb) (e a0) (bnd m fun ds => forN un f ds a0) (fun a => .nx (e a)) := fun σ G s H L o E _ q => by
  refine h σ G s H L o _ ?_
  have q' : Pss J esc G E (fun a => .nx (e a)) ((m s).go fun ds => forN un f ds a0) := q
  cases em : m s with
  | stuck =>
    rw [em] at q'
    exact q'
  | ex c fs s' =>
    rw [em] at q'
    exact Xo.out w q'
  | ok ds s' =>
    rw [em] at q'
    intro I G1 H1 sm o1 wk
    refine for_it wk (fun i σ H => ∃ a G2 s2 L2, Same G1 G2 ∧ Ok J.Z (J.lay s2) (e a) G2 σ L2 H ∧ Pss J esc G2 E (fun a => .nx (e a)) (forN un f (ds.drop i) a s2)) ⟨a0, G1, s', L, Same.refl _, o1, Pss.mono sm q'⟩ (fun i σ H _ ⟨a, G2, s2, L2, sm2, o2, _⟩ => sm2.trans o2.same) (fun i x σ2 H2 H3 hi p y => ?_) fun σ2 H2 p => ?_
    · obtain ⟨a, G2, s2, L2, sm2, o2, q2⟩ := p
      obtain ⟨d, G3, hd, sm3, o3, r⟩ := y.ok sm2 o2
      have hl : i < ds.length := hi
      have ed : ds.drop i = d :: ds.drop (i + 1) := by
        rw [List.drop_eq_getElem_cons hl]
        rw [List.getElem?_eq_getElem hl] at hd
        cases hd
        rfl
      rw [ed] at q2
      cases ht : un d with
      | none =>
        unfold forN at q2
        rw [ht] at q2
        exact q2.elim
      | some t =>
        unfold forN at q2
        rw [ht] at q2
        refine hg.go d t (e a) x σ2 G3 s2 H3 L2 ht o3 r _ fun σ4 L4 o4 _ _ _ => ?_
        refine hb t a σ4 G3 s2 H3 L4 o4 _ trivial (Pss.bind (E := E) (fin := fun a => .nx (e a)) (k := fun b => forN un f (ds.drop (i + 1)) b) (Pss.mono sm3 q2) fun b s5 q5 => ?_)
        exact fun σ6 G6 H6 L6 sm6 o6 => ⟨b, G6, s5, L6, (sm2.trans sm3).trans sm6, o6, Pss.mono sm6 q5⟩
    · obtain ⟨a, G2, s2, L2, sm2, o2, q2⟩ := p
      rw [List.drop_length] at q2
      exact q2 σ2 G2 H2 L2 (Same.refl _) o2
theorem sv_forF {wi : TI} {g : TG} {tb : TS} {un : D → Option τ} {ex : τ → Env → Env} {js : List Nat} {m : MS S (List D)} {f : τ → α → MS S (Fl α α)} (e : α → Env) (a0 : α) (h : EvI J wi (e a0) m) (w : Wk (e a0) esc) (hg : Tg J g un ex js)
    (hb : ∀ t a, Sv J Ta esc tb (ex t (e a)) (f t a) (Fl.fin e e)) : Sv J Ta esc (tFor wi g tb) (e a0) (bnd m fun ds => forF un f ds a0) (Fr.fin e) := fun σ G s H L o E _ q => by
  refine h σ G s H L o _ ?_
  have q' : Pss J esc G E (Fr.fin e) ((m s).go fun ds => forF un f ds a0) := q
  cases em : m s with
  | stuck =>
    rw [em] at q'
    exact q'
  | ex c fs s' =>
    rw [em] at q'
    exact Xo.out w q'
  | ok ds s' =>
    rw [em] at q'
    intro I G1 H1 sm o1 wk
    refine for_it wk (fun i σ H => ∃ a G2 s2 L2, Same G1 G2 ∧ Ok J.Z (J.lay s2) (e a) G2 σ L2 H ∧ Pss J esc G2 E (Fr.fin e) (forF un f (ds.drop i) a s2)) ⟨a0, G1, s', L, Same.refl _, o1, Pss.mono sm q'⟩ (fun i σ H _ ⟨a, G2, s2, L2, sm2, o2, _⟩ => sm2.trans o2.same) (fun i x σ2 H2 H3 hi p y => ?_) fun σ2 H2 p => ?_
    · obtain ⟨a, G2, s2, L2, sm2, o2, q2⟩ := p
      obtain ⟨d, G3, hd, sm3, o3, r⟩ := y.ok sm2 o2
      have hl : i < ds.length := hi
      have ed : ds.drop i = d :: ds.drop (i + 1) := by
        rw [List.drop_eq_getElem_cons hl]
        rw [List.getElem?_eq_getElem hl] at hd
        cases hd
        rfl
      rw [ed] at q2
      cases ht : un d with
      | none =>
        unfold forF at q2
        rw [ht] at q2
        exact q2.elim
      | some t =>
        unfold forF at q2
        rw [ht] at q2
        refine hg.go d t (e a) x σ2 G3 s2 H3 L2 ht o3 r _ fun σ4 L4 o4 _ _ _ => ?_
        refine hb t a σ4 G3 s2 H3 L4 o4 _ trivial (Pss.bind (E := E) (fin := Fr.fin e) (m := f t a) (Pss.mono sm3 q2) fun b s5 q5 => ?_)
        cases b with
        | nx b => exact fun σ6 G6 H6 L6 sm6 o6 => ⟨b, G6, s5, L6, (sm2.trans sm3).trans sm6, o6, Pss.mono sm6 q5⟩
        | ct b => exact fun σ6 G6 H6 L6 sm6 o6 => ⟨b, G6, s5, L6, (sm2.trans sm3).trans sm6, o6, Pss.mono sm6 q5⟩
        | bk b => exact q5
        | rt b => exact q5
    · obtain ⟨a, G2, s2, L2, sm2, o2, q2⟩ := p
      rw [List.drop_length] at q2
      exact q2 σ2 G2 H2 L2 (Same.refl _) o2
/-! ### while: n turns at most -/
def whlN (c : α → MS S Bool) (f : α → MS S α) : Nat → α → MS S α
  | 0, _ => stk
  | n + 1, a => bnd (c a) fun b => if b = true then bnd (f a) fun a' => whlN c f n a' else ret a
def whlF (c : α → MS S Bool) (f : α → MS S (Fl α α)) : Nat → α → MS S (Fr α)
  | 0, _ => stk
  | n + 1, a => bnd (c a) fun b => if b = true then bnd (f a) fun r => (match r with
    | .nx b => whlF c f n b
    | .ct b => whlF c f n b
    | .bk b => ret (.nx b)
    | .rt e => ret (.rt e)) else ret (.nx a)
theorem sv_whlN {tc : TT} {tb : TS} {c : α → MS S Bool} {f : α → MS S α} (e : α → Env) (a0 : α) (n : Nat) (h : ∀ a, EvT J tc (e a) (c a)) (w : ∀ a, Wk (e a) esc)
    (hb : ∀ a, Sv J Ta esc tb (e a) (f a) (fun b => .nx (e b))) : Sv J Ta esc (tWhile tc tb) (e a0) (whlN c f n a0) (fun a => .nx (e a)) := fun σ G s H L o E _ q => by
  refine ⟨fun k σ H => ∃ a G2 s2 L2, Ok J.Z (J.lay s2) (e a) G2 σ L2 H ∧ Pss J esc G2 E (fun a => .nx (e a)) (whlN c f k a s2), ⟨n, a0, G, s, L, o, q⟩, fun k σ H ⟨a, G2, s2, L2, o2, q2⟩ => ?_⟩
  cases k with
  | zero => exact q2.elim
  | succ k =>
    refine (h a).runS o2 (w a) q2 fun b b' G3 s3 H3 sm3 o3 hb' q3 => ?_
    cases hb'
    cases b with
    | true =>
      refine ⟨fun σ H => ∃ a G2 s2 L2, Ok J.Z (J.lay s2) (e a) G2 σ L2 H ∧ Pss J esc G2 E (fun a => .nx (e a)) (whlN c f k a s2), fun σ' H' p => ⟨k, Nat.lt_succ_self k, p⟩, ?_⟩
      refine hb a σ G3 s3 H3 L2 o3 _ trivial (Pss.bind (E := E) (fin := fun a => .nx (e a)) (k := fun b => whlN c f k b) q3 fun b s5 q5 => ?_)
      exact fun σ6 G6 H6 L6 sm6 o6 => ⟨b, G6, s5, L6, o6, Pss.mono sm6 q5⟩
    | false => exact q3 σ G3 H3 L2 (Same.refl _) o3
theorem sv_whlF {tc : TT} {tb : TS} {c : α → MS S Bool} {f : α → MS S (Fl α α)} (e : α → Env) (a0 : α) (n : Nat) (h : ∀ a, EvT J tc (e a) (c a)) (w : ∀ a, Wk (e a) esc)
    (hb : ∀ a, Sv J Ta esc tb (e a) (f a) (Fl.fin e e)) : Sv J Ta esc (tWhile tc tb) (e a0) (whlF c f n a0) (Fr.fin e) := fun σ G s H L o E _ q => by
  refine ⟨fun k σ H => ∃ a G2 s2 L2, Ok J.Z (J.lay s2) (e a) G2 σ L2 H ∧ Pss J esc G2 E (Fr.fin e) (whlF c f k a s2), ⟨n, a0, G, s, L, o, q⟩, fun k σ H ⟨a, G2, s2, L2, o2, q2⟩ => ?_⟩
  cases k with
  | zero => exact q2.elim
  | succ k =>
    refine (h a).runS o2 (w a) q2 fun b b' G3 s3 H3 sm3 o3 hb' q3 => ?_
    cases hb'
    cases b with
    | true =>
      refine ⟨fun σ H => ∃ a G2 s2 L2, Ok J.Z (J.lay s2) (e a) G2 σ L2 H ∧ Pss J esc G2 E (Fr.fin e) (whlF c f k a s2), fun σ' H' p => ⟨k, Nat.lt_succ_self k, p⟩, ?_⟩
      refine hb a σ G3 s3 H3 L2 o3 _ trivial (Pss.bind (E := E) (fin := Fr.fin e) (m := f a) q3 fun b s5 q5 => ?_)
      cases b with
      | nx b => exact fun σ6 G6 H6 L6 sm6 o6 => ⟨b, G6, s5, L6, o6, Pss.mono sm6 q5⟩
      | ct b => exact fun σ6 G6 H6 L6 sm6 o6 => ⟨b, G6, s5, L6, o6, Pss.mono sm6 q5⟩
      | bk b => exact q5
      | rt b => exact q5
    | false => exact q3 σ G3 H3 L2 (Same.refl _) o3
end
end Dm

set_option Elab.async false
set_option linter.all false
set_option maxRecDepth 100000
namespace Dm
open PySem PySem.Spec PyProof.Rows L2
section
variable {S : Type} {J : Jc S} {α β γ δ τ : Type} {ρ esc : Env} {σ : Sl} {G G' H : Hp} {L : Led} {T : Ends → Prop} {E : Ends}
/-! ### own lists, changed -/
/-- a change of the own list in slot i: the state behind it -/
theorem Ok.put {B : Led} {i : Nat} {ds : List D} (o : Ok J.Z B ρ G σ L H) (h : ρ[i]? = some (.O ds)) : ∃ (p : Addr) (xs : List V), σ[i]? = some (some (.ref p)) ∧ H p = some (.lst xs) ∧ RpAll J.Z G xs ds ∧
    ∀ ys es, RpAll J.Z G ys es → ∃ L', Ok J.Z B (ρ.set i (.O es)) G σ L' (upd H p (.lst ys)) := by
  obtain ⟨p, xs, L1, L2, a1, a2, a3, a4, a5⟩ := o.own h
  refine ⟨p, xs, a1, a3, a4, fun ys es r => ⟨_, a5 G ys es (Same.refl _) r, ?_⟩⟩
  have w := o.2
  rw [a2, List.append_assoc, List.cons_append] at w
  rw [List.append_assoc, List.cons_append]
  exact w.put
def app1 (ds : List D) (d : D) : Option (List D) := if ds.length < tooLong then some (ds ++ [d]) else none
theorem ite_some {p : Prop} [Decidable p] {a b : α} (h : (if p then some a else none) = some b) : p ∧ a = b := by
  by_cases hp : p
  · rw [if_pos hp] at h
    cases h
    exact ⟨hp, rfl⟩
  · rw [if_neg hp] at h
    cases h
/-- xs.append(e) -/
theorem sv_app {K : PySem.W.Frag} {i : Nat} {ds : List D} {te : TE} {m : MS S D} (hi : ρ[i]? = some (.O ds)) (h : Ev J te ρ m) (w : Wk ρ esc) :
    Sv J Ta esc (tDrop (tBM K "list" rAppend (tVar i) (tCons te tNil))) ρ (bnd m fun d => lft (app1 ds d)) (fun es => .nx (ρ.set i (.O es))) := fun σ G s H L o E _ q => by
  obtain ⟨p, xs, a1, a2, a3, _⟩ := o.put hi
  refine ⟨.ref p, a1, .inl ⟨rfl, xs, sq_l a2⟩, h.runS o w q fun d v G1 s1 H1 e1 o1 r q1 => Pss.lft q1 fun es he q2 => ?_⟩
  obtain ⟨hl, rfl⟩ := ite_some he
  obtain ⟨p', ys, b1, b2, b3, b4⟩ := o1.put hi
  rw [a1] at b1
  cases b1
  obtain ⟨L', o2⟩ := b4 (ys ++ [v]) (ds ++ [d]) (b3.append (.one r))
  exact ⟨p, ys, v, rfl, rfl, b2, long_lt (by rw [b3.length]; exact hl), q2 σ G1 _ L' (Same.refl _) o2⟩
def set1 (ds : List D) (k d : D) : Option (List D) := match k with
  | .int i => match ixN ds.length i with
    | some j => some (ds.set j d)
    | none => none
  | _ => none
/-- xs[k] = e -/
theorem sv_setI {i : Nat} {ds : List D} {te ti : TE} {m n : MS S D} (hi : ρ[i]? = some (.O ds)) (h : Ev J te ρ m) (hk : Ev J ti ρ n) (w : Wk ρ esc) :
    Sv J Ta esc (tAsg te (gSub (tVar i) ti rSetL)) ρ (bnd m fun d => bnd n fun k => lft (set1 ds k d)) (fun es => .nx (ρ.set i (.O es))) := fun σ G s H L o E _ q =>
  h.runS o w q fun d v G1 s1 H1 e1 o1 r q1 => by
    obtain ⟨p, xs, a1, a2, a3, _⟩ := o1.put hi
    refine ⟨.ref p, a1, hk.runS o1 w q1 fun k u G2 s2 H2 e2 o2 rk q2 => Pss.lft q2 fun es he q3 => ?_⟩
    cases k with
    | int z =>
      unfold set1 at he
      dsimp only at he
      cases e : ixN ds.length z with
      | none => rw [e] at he; cases he
      | some j =>
        rw [e] at he
        cases he
        obtain ⟨p', ys, b1, b2, b3, b4⟩ := o2.put hi
        rw [a1] at b1
        cases b1
        obtain ⟨L', o3⟩ := b4 (ys.set j v) (ds.set j d) (b3.set (r.mono e2) j)
        exact ⟨p, ys, z, j, rfl, rX.int (J := J) (ρ := ρ) (σ := σ) (.inl rk), b2, by rw [b3.length]; exact e, q3 σ G2 _ L' (Same.refl _) o3⟩
    | _ => cases he
def ins1 (ds : List D) (k d : D) : Option (List D) := match k with
  | .int i => if ds.length < tooLong ∧ 0 ≤ i ∧ i.natAbs < 2305843009213693952 then some (ds.take i.toNat ++ [d] ++ ds.drop i.toNat) else none
  | _ => none
def rIns : V → List V → Hp → VK → Prop := fun x vs H Q => ∃ (l : Addr) (xs : List V) (i : Int) (y : V), x = .ref l ∧ vs = [.int i, y] ∧ H l = some (.lst xs) ∧ xs.length < sizeLine ∧ 0 ≤ i ∧ i < 2 ^ 63 ∧ Q .non (upd H l (.lst (xs.take i.toNat ++ [y] ++ xs.drop i.toNat)))
/-- xs.insert(k, e) -/
theorem sv_ins {K : PySem.W.Frag} {i : Nat} {ds : List D} {te ti : TE} {m n : MS S D} (hi : ρ[i]? = some (.O ds)) (hk : Ev J ti ρ n) (h : Ev J te ρ m) (w : Wk ρ esc) :
    Sv J Ta esc (tDrop (tBM K "list" rIns (tVar i) (tCons ti (tCons te tNil)))) ρ (bnd n fun k => bnd m fun d => lft (ins1 ds k d)) (fun es => .nx (ρ.set i (.O es))) := fun σ G s H L o E _ q => by
  obtain ⟨p, xs, a1, a2, a3, _⟩ := o.put hi
  refine ⟨.ref p, a1, .inl ⟨rfl, xs, sq_l a2⟩, hk.runS o w q fun k u G1 s1 H1 e1 o1 rk q1 => h.runS o1 w q1 fun d v G2 s2 H2 e2 o2 r q2 => Pss.lft q2 fun es he q3 => ?_⟩
  cases k with
  | int z =>
    unfold ins1 at he
    dsimp only at he
    obtain ⟨hl, rfl⟩ := ite_some he
    obtain ⟨p', ys, b1, b2, b3, b4⟩ := o2.put hi
    rw [a1] at b1
    cases b1
    obtain ⟨L', o3⟩ := b4 (ys.take z.toNat ++ [v] ++ ys.drop z.toNat) _ (((b3.take _).append (.one r)).append (b3.drop _))
    exact ⟨p, ys, z, v, rfl, by rw [rX.int (J := J) (ρ := ρ) (σ := σ) (.inl rk)], b2, long_lt (by rw [b3.length]; exact hl.1), hl.2.1, by have := hl.2.2; have := hl.2.1; omega, q3 σ G2 _ L' (Same.refl _) o3⟩
  | _ => cases he
/-- xs.extend(e), e a list -/
def ext1 (ds : List D) (d : D) : Option (List D) := match d with
  | .lst es => if ds.length + es.length < tooLong then some (ds ++ es) else none
  | _ => none
theorem sv_ext {K : PySem.W.Frag} {i : Nat} {ds : List D} {te : TE} {m : MS S D} (hi : ρ[i]? = some (.O ds)) (h : Ev J te ρ m) (w : Wk ρ esc) :
    Sv J Ta esc (tDrop (tBM K "list" rExtend (tVar i) (tCons te tNil))) ρ (bnd m fun d => lft (ext1 ds d)) (fun es => .nx (ρ.set i (.O es))) := fun σ G s H L o E _ q => by
  obtain ⟨p, xs, a1, a2, a3, _⟩ := o.put hi
  refine ⟨.ref p, a1, .inl ⟨rfl, xs, sq_l a2⟩, h.runS o w q fun d v G1 s1 H1 e1 o1 r q1 => Pss.lft q1 fun es he q2 => ?_⟩
  cases d with
  | lst ks =>
    unfold ext1 at he
    dsimp only at he
    obtain ⟨hl, rfl⟩ := ite_some he
    obtain ⟨p', ys, b1, b2, b3, b4⟩ := o1.put hi
    rw [a1] at b1
    cases b1
    obtain ⟨b, zs, rfl, c1, c2⟩ := rX.lst (J := J) (ρ := ρ) (σ := σ) o1 (.inl r)
    obtain ⟨L', o2⟩ := b4 (ys ++ zs) _ (b3.append c2)
    exact ⟨p, b, ys, zs, rfl, rfl, b2, c1, long_ok (by rw [b3.length, c2.length]; exact hl), q2 σ G1 _ L' (Same.refl _) o2⟩
  | _ => cases he
/-- x = xs.pop() -/
def pop1 (ds : List D) : Option (D × List D) := match ds[ds.length - 1]? with
  | some d => some (d, ds.dropLast)
  | none => none
theorem RpAll.dropLast {Z : Wo} {xs : List V} {ds : List D} (r : RpAll Z G xs ds) : RpAll Z G xs.dropLast ds.dropLast := by
  rw [List.dropLast_eq_take, List.dropLast_eq_take, r.length]
  exact r.take _
theorem sv_asgPop {K : PySem.W.Frag} {i j : Nat} {ds : List D} (hi : ρ[i]? = some (.O ds)) (w : Wk ρ esc) :
    Sv J Ta esc (tAsg (tBM0 K "list" rPop (tVar i)) (gName j)) ρ (lft (pop1 ds)) (fun t => .nx ((ρ.set i (.O t.2)).set j (.P t.1))) := fun σ G s H L o E _ q => by
  obtain ⟨p, xs, a1, a2, a3, a4⟩ := o.put hi
  refine ⟨.ref p, a1, .inl ⟨rfl, xs, sq_l a2⟩, ?_⟩
  refine Pss.lft q fun t ht q1 => ?_
  unfold pop1 at ht
  cases e : ds[ds.length - 1]? with
  | none => rw [e] at ht; cases ht
  | some d =>
    rw [e] at ht
    cases ht
    obtain ⟨v, b1, b2⟩ := a3.get e
    obtain ⟨L', o1⟩ := a4 xs.dropLast ds.dropLast a3.dropLast
    obtain ⟨L2, o2⟩ := o1.set (i := j) b2
    exact ⟨p, xs, v, rfl, rfl, a2, by rw [a3.length]; exact b1, q1 _ G _ L2 (Same.refl _) o2⟩
/-- xs.pop(k), dropped -/
def popA (ds : List D) (k : D) : Option (List D) := match k with
  | .int i => if i.natAbs < 2305843009213693952 then match seqIndex? i ds.length with
      | some j => if j < ds.length then some (ds.eraseIdx j) else none
      | none => none
    else none
  | _ => none
theorem sv_popA {K : PySem.W.Frag} {i : Nat} {ds : List D} {ti : TE} {n : MS S D} (hi : ρ[i]? = some (.O ds)) (hk : Ev J ti ρ n) (w : Wk ρ esc) :
    Sv J Ta esc (tDrop (tBM K "list" rPopAt (tVar i) (tCons ti tNil))) ρ (bnd n fun k => lft (popA ds k)) (fun es => .nx (ρ.set i (.O es))) := fun σ G s H L o E _ q => by
  obtain ⟨p, xs, a1, a2, a3, _⟩ := o.put hi
  refine ⟨.ref p, a1, .inl ⟨rfl, xs, sq_l a2⟩, hk.runS o w q fun k u G1 s1 H1 e1 o1 rk q1 => Pss.lft q1 fun es he q3 => ?_⟩
  cases k with
  | int z =>
    unfold popA at he
    dsimp only at he
    by_cases hz : z.natAbs < 2305843009213693952
    · rw [if_pos hz] at he
      cases e : seqIndex? z ds.length with
      | none => rw [e] at he; cases he
      | some j =>
        rw [e] at he
        dsimp only at he
        obtain ⟨hl, rfl⟩ := ite_some he
        obtain ⟨p', ys, b1, b2, b3, b4⟩ := o1.put hi
        rw [a1] at b1
        cases b1
        obtain ⟨L', o3⟩ := b4 (ys.eraseIdx j) _ (b3.eraseIdx j)
        obtain ⟨v, c1, c2⟩ := b3.get (List.getElem?_eq_getElem hl)
        exact ⟨p, ys, z, j, v, rfl, by rw [rX.int (J := J) (ρ := ρ) (σ := σ) (.inl rk)], b2, by omega, by omega, by rw [b3.length]; exact e, c1, q3 σ G1 _ L' (Same.refl _) o3⟩
    · rw [if_neg hz] at he
      cases he
  | _ => cases he
/-- n += e, ints -/
theorem sv_aug {f : Int → Int → Int} {i : Nat} {a : D} {te : TE} {m : MS S D} (hi : ρ[i]? = some (.P a)) (h : Ev J te ρ m) (w : Wk ρ esc) :
    Sv J Ta esc (tAug i te (ipI f)) ρ (bnd m fun d => lft (oI f a d)) (fun d => .nx (ρ.set i (.P d))) := fun σ G s H L o E _ q => by
  obtain ⟨v, b1, b2⟩ := o.1.var hi
  refine ⟨v, b1, h.runS o w q fun d u G1 s1 H1 e1 o1 r q1 => Pss.lft q1 fun z hz q2 => ?_⟩
  cases a with
  | int x =>
    cases d with
    | int y =>
      cases hz
      cases b2
      cases r
      obtain ⟨L', o2⟩ := o1.set (i := i) (.int (f x y))
      exact ⟨x, y, rfl, rfl, q2 _ G1 H1 L' (Same.refl _) o2⟩
    | _ => cases hz
  | _ => cases hz

/-! ### comprehensions -/
def nex (m : MS S α) : MS S α := fun s => match m s with
  | .ok a s' => .ok a s'
  | _ => .stuck
theorem nex_ret (a : α) : (nex (ret a) : MS S α) = ret a := rfl
theorem nex_stk : (nex stk : MS S α) = stk := rfl
theorem nex_rse (c : Nat) (fs : List D) : (nex (rse c fs) : MS S α) = stk := rfl
theorem nex_lft (o : Option α) : (nex (lft o) : MS S α) = lft o := by
  cases o <;> rfl
theorem nex_bnd (m : MS S α) (k : α → MS S β) : nex (bnd m k) = bnd (nex m) fun a => nex (k a) := by
  funext s
  show (match (m s).go k with
    | .ok a s' => Rs.ok a s'
    | _ => .stuck) = (match m s with
    | .ok a s' => Rs.ok a s'
    | _ => .stuck).go fun a => nex (k a)
  cases m s <;> rfl
theorem nex_ite (b : Prop) [Decidable b] (m n : MS S α) : nex (if b then m else n) = if b then nex m else nex n := by
  by_cases h : b
  · rw [if_pos h, if_pos h]
  · rw [if_neg h, if_neg h]
def lcM (un : D → Option τ) (c : τ → MS S Bool) (f : τ → MS S D) : List D → MS S (List D)
  | [] => ret []
  | d :: ds => bnd (lft (un d)) fun t => bnd (nex (c t)) fun b => if b = true then bnd (nex (f t)) fun y => bnd (lcM un c f ds) fun ys => ret (y :: ys) else lcM un c f ds
def Jc.add (J : Jc S) (p : Addr) (xs : List V) : Jc S where
  Z := J.Z
  lay := fun s => (p, .lst xs) :: J.lay s
  X := fun _ _ _ _ => False
def wipeE (ρ : Env) : List Nat → Env
  | [] => ρ
  | v :: vs => (wipeE ρ vs).set v .U
theorem Cells.setU {Z : Wo} {x : Option V} : ∀ {e : Env} {σ : Sl} {L : Led} (i : Nat), noO e[i]? = true → Cells Z G e σ L → Cells Z G (e.set i .U) (σ.set i x) L
  | _, _, _, _, _, .nil => .nil
  | _, _, _, 0, _, .U c => .U c
  | _, _, _, 0, _, .P q c => .U c
  | _, _, _, 0, h, .O q c => absurd h Bool.false_ne_true
  | _, _, _, 0, h, .Q q c => absurd h Bool.false_ne_true
  | _, _, _, 0, _, .A f c => .U c
  | _, _, _, i + 1, h, .U c => .U (c.setU i (by simpa using h))
  | _, _, _, i + 1, h, .P q c => .P q (c.setU i (by simpa using h))
  | _, _, _, i + 1, h, .O q c => .O q (c.setU i (by simpa using h))
  | _, _, _, i + 1, h, .A f c => .A f (c.setU i (by simpa using h))
  | _, _, _, i + 1, h, .Q f c => .Q f (c.setU i (by simpa using h))
theorem set_U {ρ : Env} {i j : Nat} (h : noO ρ[j]? = true) : noO (ρ.set i .U)[j]? = true := by
  by_cases hij : i = j
  · subst hij
    by_cases hl : i < ρ.length
    · rw [List.getElem?_set_self hl]
      rfl
    · rw [List.getElem?_eq_none (by simpa using hl)]
      rfl
  · rw [List.getElem?_set_ne hij]
    exact h
theorem wipeE_O {j : Nat} (h : noO ρ[j]? = true) : ∀ vs : List Nat, noO (wipeE ρ vs)[j]? = true
  | [] => h
  | _ :: vs => set_U (wipeE_O h vs)
theorem Cells.wipe {Z : Wo} : ∀ {vs : List Nat}, (∀ v ∈ vs, noO ρ[v]? = true) → Cells Z G ρ σ L → Cells Z G (wipeE ρ vs) (L2.wipe σ vs) L
  | [], _, c => c
  | v :: vs, h, c => Cells.setU v (wipeE_O (h v (by simp)) vs) (Cells.wipe (fun u hu => h u (by simp [hu])) c)
theorem wipe_at (σ : Sl) (i : Nat) : ∀ vs : List Nat, (L2.wipe σ vs)[i]? = if i ∈ vs then (σ[i]?).map (fun _ => none) else σ[i]?
  | [] => by
    rw [if_neg (by simp)]
    rfl
  | v :: vs => by
    show ((L2.wipe σ vs).set v none)[i]? = _
    by_cases hv : v = i
    · subst hv
      rw [if_pos (by simp)]
      by_cases hl : v < (L2.wipe σ vs).length
      · rw [List.getElem?_set_self hl]
        rw [wipe_length] at hl
        rw [List.getElem?_eq_getElem hl]
        rfl
      · rw [List.getElem?_eq_none (by simpa using hl)]
        rw [wipe_length] at hl
        rw [List.getElem?_eq_none (by omega)]
        rfl
    · rw [List.getElem?_set_ne hv, wipe_at σ i vs]
      by_cases hi : i ∈ vs
      · rw [if_pos hi, if_pos (by simp [hi])]
      · rw [if_neg hi, if_neg (by simp [hi, Ne.symm hv])]
theorem wipe_back {σ σ' : Sl} {vs js : List Nat} (hj : ∀ j ∈ js, j ∈ vs) (hl : σ'.length = (L2.wipe σ vs).length) (h : ∀ i, i ∉ js → σ'[i]? = (L2.wipe σ vs)[i]?) : L2.wipe σ' vs = L2.wipe σ vs := by
  refine List.ext_getElem? fun i => ?_
  rw [wipe_at, wipe_at]
  by_cases hi : i ∈ vs
  · rw [if_pos hi, if_pos hi]
    rw [wipe_length] at hl
    by_cases hlt : i < σ.length
    · rw [List.getElem?_eq_getElem hlt, List.getElem?_eq_getElem (by omega)]
      rfl
    · rw [List.getElem?_eq_none (by omega), List.getElem?_eq_none (by omega)]
  · rw [if_neg hi, if_neg hi, h i (fun z => hi (hj i z)), wipe_at, if_neg hi]
theorem EvI.runL {wi : TI} {m : MS S (List D)} {k : List D → MS S (List D)} {s : S} {Q : VK} (h1 : EvI J wi ρ m) (o : Ok J.Z (J.lay s) ρ G σ L H) (h : PstL J ρ σ L G Q (bnd m k s)) {R : It → Hp → Prop}
    (kk : ∀ ds I G' s' H', Same G G' → Ok J.Z (J.lay s') ρ G' σ L H' → Walk I ds.length (fun H => Same G' H) (YD J.Z G' ds) → PstL J ρ σ L G' Q (k ds s') → R I H') : wi σ H R := by
  refine h1 σ G s H L o _ ?_
  have h' : PstL J ρ σ L G Q ((m s).go k) := h
  cases e : m s with
  | stuck =>
    rw [e] at h'
    exact h'
  | ex c fs s' =>
    rw [e] at h'
    exact h'
  | ok a s' =>
    rw [e] at h'
    exact fun I G' H' sm o' wk => kk a I G' s' H' sm o' wk (PstL.mono sm h')
/-- within a comprehension: what is raised is not said -/
theorem EvG.runC {ρ' : Env} {σ' : Sl} {L' : Led} {p : Addr} {xs : List V} {R1 : Sl → Hp → γ → α → Prop} {t : Sl → Hp → (γ → Hp → Prop) → Prop} {Q : VK} {m : MS S α} {k : α → MS S (List D)} {s : S} (h1 : EvG (J.add p xs) R1 t ρ' m)
    (o : Ok J.Z ((p, .lst xs) :: J.lay s) ρ' G σ' L' H) (h : PstL J ρ σ L G Q (bnd (nex m) k s)) {P : γ → Hp → Prop} (kk : ∀ a b G' s' H', Same G G' → Ok J.Z ((p, .lst xs) :: J.lay s') ρ' G' σ' L' H' → R1 σ' G' b a → PstL J ρ σ L G' Q (k a s') → P b H') : t σ' H P := by
  refine h1 σ' G s H L' o _ ?_
  have h' : PstL J ρ σ L G Q ((match m s with
    | .ok a s' => Rs.ok a s'
    | _ => .stuck).go k) := h
  cases e : m s with
  | stuck =>
    rw [e] at h'
    exact h'
  | ex c fs s' =>
    rw [e] at h'
    exact h'.elim
  | ok a s' =>
    rw [e] at h'
    exact fun b G' H' sm o' r => kk a b G' s' H' sm o' r (PstL.mono sm h')
theorem el_lc {wi : TI} {g : TG} {tt : TT} {te : TE} {un : D → Option τ} {ex : τ → Env → Env} {js vs : List Nat} {m : MS S (List D)} {c : τ → MS S Bool} {f : τ → MS S D} (h : EvI J wi ρ m) (hg : ∀ p xs, Tg (J.add p xs) g un ex js)
    (ht : ∀ t p xs, EvT (J.add p xs) tt (ex t (wipeE ρ vs)) (c t)) (he : ∀ t p xs, Ev (J.add p xs) te (ex t (wipeE ρ vs)) (f t)) (hj : ∀ j ∈ js, j ∈ vs := by decide) (hO : ∀ v ∈ vs, noO ρ[v]? = true := by decide) :
    EvL J (tLc wi g tt te vs) ρ (bnd m fun ds => bnd (lft (mkL ds)) fun ds => lcM un c f ds) := fun σ G s H L o Q q =>
  h.runL o q fun ds0 I G1 s1 H1 e1 o1 wk q1 Dp hD => by
    have hO' : ∀ v ∈ vs, noO ρ[v]? = true := hO
    cases hds : mkL ds0 with
    | none =>
      rw [hds] at q1
      exact q1.elim
    | some ds =>
    rw [hds] at q1
    obtain ⟨rfl, hlen⟩ := mkL_some hds
    refine lc_it wk (fun i H => ∃ as xs G2 s2, Same G1 G2 ∧ Cells J.Z G2 ρ σ L ∧ Wd G2 ((Dp, .lst xs) :: (L ++ J.lay s2)) H ∧ RpAll J.Z G2 xs as ∧ as.length ≤ i ∧ PstL J ρ σ L G2 Q (bnd (lcM un c f (ds.drop i)) (fun ys => ret (as ++ ys)) s2))
      ⟨[], [], G1, s1, Same.refl _, o1.1, o1.2.keep hD, .nil, Nat.le_refl _, ?_⟩ (fun i H _ ⟨as, xs, G2, s2, sm, _, w, _⟩ => sm.trans w.same) (fun i x H2 H3 hi p y => ?_) fun H2 p => ?_
    · have e0 : (bnd (lcM un c f (ds.drop 0)) fun ys => ret ([] ++ ys)) = lcM un c f ds := by
        show (bnd (lcM un c f ds) fun ys => ret ys) = _
        exact bnd_id _
      rw [e0]
      exact q1
    · obtain ⟨as, xs, G2, s2, sm2, c2, w2, r2, hle, q2⟩ := p
      have hl : i < ds.length := hi
      have o2 : Ok J.Z ((Dp, .lst xs) :: J.lay s2) ρ G2 σ L H2 := ⟨c2, w2.perm List.perm_middle⟩
      obtain ⟨d, G3, hd, sm3, o3, r⟩ := y.ok sm2 o2
      have ed : ds.drop i = d :: ds.drop (i + 1) := by
        rw [List.drop_eq_getElem_cons hl]
        rw [List.getElem?_eq_getElem hl] at hd
        cases hd
        rfl
      rw [ed] at q2
      cases hu : un d with
      | none =>
        unfold lcM at q2
        rw [hu] at q2
        exact q2.elim
      | some t =>
        unfold lcM at q2
        rw [hu] at q2
        have q3 : PstL J ρ σ L G2 Q (bnd (bnd (nex (c t)) fun b => if b = true then bnd (nex (f t)) fun y => bnd (lcM un c f (ds.drop (i + 1))) fun ys => ret (y :: ys) else lcM un c f (ds.drop (i + 1))) (fun ys => ret (as ++ ys)) s2) := q2
        rw [bnd_bnd] at q3
        have ow : Ok (J.add Dp xs).Z ((J.add Dp xs).lay s2) (wipeE ρ vs) G3 (L2.wipe σ vs) L H3 := ⟨o3.1.wipe hO', o3.2⟩
        refine (hg Dp xs).go d t _ x _ G3 s2 H3 L hu ow r _ fun σ4 L4 o4 hlen4 hsame hL4 => ?_
        have eL : L4 = L := hL4 fun j hjj => wipeE_O (hO' j (hj j hjj)) vs
        subst eL
        refine ⟨wipe_back hj hlen4 hsame, ?_⟩
        refine (ht t Dp xs).runC (ρ := ρ) (σ := σ) (L := L4) o4 (PstL.mono sm3 q3) fun b b' G5 s5 H5 sm5 o5 hb q5 => ?_
        cases hb
        cases b with
        | false =>
          refine ⟨as, xs, G5, s5, (sm2.trans sm3).trans sm5, c2.mono (sm3.trans sm5), o5.2.perm List.perm_middle.symm, r2.mono (sm3.trans sm5), Nat.le_succ_of_le hle, q5⟩
        | true =>
          rw [if_pos rfl, bnd_bnd] at q5
          refine (he t Dp xs).runC (ρ := ρ) (σ := σ) (L := L4) o5 q5 fun y vv G6 s6 H6 sm6 o6 ry q6 => ?_
          have w6 : Wd G6 ((Dp, .lst xs) :: (L4 ++ J.lay s6)) H6 := o6.2.perm List.perm_middle.symm
          have sm36 := (sm3.trans sm5).trans sm6
          refine ⟨xs, (w6.own (Dp, .lst xs) List.mem_cons_self).1, long_lt (by rw [r2.length]; omega), as ++ [y], xs ++ [vv], G6, s6, sm2.trans sm36, c2.mono sm36, w6.put (L1 := []), (r2.mono sm36).append (.one ry), by rw [List.length_append]; exact Nat.succ_le_succ hle, ?_⟩
          rw [bnd_bnd] at q6
          have e9 : (bnd (lcM un c f (ds.drop (i + 1))) fun ys => bnd (ret (y :: ys)) fun ys => ret (as ++ ys)) = bnd (lcM un c f (ds.drop (i + 1))) fun ys => (ret (as ++ [y] ++ ys) : MS S (List D)) := by
            congr 1
            funext ys
            show ret (as ++ y :: ys) = _
            rw [List.append_assoc]
            rfl
          rw [e9] at q6
          exact q6
    · obtain ⟨as, xs, G2, s2, sm2, c2, w2, r2, hle, q2⟩ := p
      rw [List.drop_length] at q2
      have q3 : PstL J ρ σ L G2 Q (.ok (as ++ []) s2) := q2
      rw [List.append_nil] at q3
      exact q3 Dp xs G2 H2 (Same.refl _) ⟨c2, w2⟩ r2
theorem et_yes : EvT J tYes ρ (ret true) := fun σ G s H L o Q q => q true G H (Same.refl _) o rfl

/-! ### defs: what is promised, how they are called -/
def EndP (Z : Wo) (lay : S → Led) (G : Hp) (Q : VK) (E : XK) : Rs S D → Prop
  | .stuck => False
  | .ok d s => ∀ v G' H', Same G G' → Wd G' (lay s) H' → Rp Z G' v d → Q v H'
  | .ex c fs s => ∀ dx vs G' H', Same G G' → Wd G' (lay s) H' → G' dx = some (.xd ((Z.fn c).zip vs)) → (Z.fn c).length = vs.length → RpAll Z G' vs fs → E (.ref (Z.cl c)) (some dx) H'
/-- a def's promise: it does what m says of the data -/
def spM (Z : Wo) (m : (S : Type) → List D → MS S D) : Sp := fun vs H Q E => ∃ (S : Type) (lay : S → Led) (G : Hp) (s : S) (ds : List D), Wd G (lay s) H ∧ RpAll Z G vs ds ∧ EndP Z lay G Q E (m S ds s)
theorem spM_len {Z : Wo} {m : (S : Type) → List D → MS S D} {n : Nat} (hm : ∀ S ds, ds.length ≠ n → m S ds = stk) {vs : List V} {H : Hp} {Q : VK} {E : XK} (h : spM Z m vs H Q E) : vs.length = n := by
  obtain ⟨S, lay, G, s, ds, w, r, e⟩ := h
  by_cases hl : ds.length = n
  · rw [r.length, hl]
  · rw [hm S ds hl] at e
    exact e.elim
theorem ev_call {m : (S : Type) → List D → MS S D} {dvs : List V} {dds : List D} {ta : TA} {ma : MS S (List D)} (h : EvA J ta ρ ma) (hd : ∀ G, RpAll J.Z G dvs dds := by intro _; repeat constructor) :
    Ev J (tCallSD (spM J.Z m) dvs (WE J.X) ta) ρ (bnd ma fun ds => m S (ds ++ dds)) := fun σ G s H L o Q q =>
  h.run o q fun ds xs G1 s1 H1 e1 o1 r q1 => by
    refine ⟨S, fun s => L ++ J.lay s, G1, s1, ds ++ dds, o1.2, RpAll.append r (hd G1), ?_⟩
    cases e : m S (ds ++ dds) s1 with
    | stuck =>
      rw [e] at q1
      exact q1
    | ex c fs s2 =>
      rw [e] at q1
      exact fun dx vs G' H' sm w a b rr => q1 dx vs G' H' sm ⟨o1.1.mono sm, w⟩ a b rr
    | ok d s2 =>
      rw [e] at q1
      exact fun v G' H' sm w rr => q1 v G' H' sm ⟨o1.1.mono sm, w⟩ rr
/-- a def's body keeps its promise -/
def ends (Q : VK) : Ends := { nx := fun _ H => Q .non H, rt := Q }
theorem body_ok {t : TS} {m : MS S D} {Q : VK} {X : XK} {s : S} (sv : Sv J Tl esc t ρ m Fin.rt) (o : Ok J.Z (J.lay s) ρ G σ L H) (hX : ∀ cls d σ H, X cls d H → J.X cls d σ H) (e : EndP J.Z J.lay G Q X (m s)) : t (ends Q) σ H := by
  refine sv σ G s H L o (ends Q) (fun σ H q => q) ?_
  cases em : m s with
  | stuck =>
    rw [em] at e
    exact e
  | ex c fs s2 =>
    rw [em] at e
    exact fun σ' dx vs G' H' L' sm o' a b rr => hX _ _ _ _ (e dx vs G' H' sm o'.wd a b rr)
  | ok d s2 =>
    rw [em] at e
    exact e
end
/-- the slots at a def's start -/
def startE (ds : List D) (n : Nat) : Env := ds.map Cell.P ++ List.replicate n .U
theorem cells_more {Z : Wo} {G : Hp} {e : Env} {σ : Sl} {L : Led} (c : Cells Z G e σ L) : ∀ {vs : List V} {ds : List D}, RpAll Z G vs ds → Cells Z G (ds.map Cell.P ++ e) (vs.map some ++ σ) L
  | _, _, .nil => c
  | _, _, .cons h r => .P h (cells_more c r)
theorem cells_none {Z : Wo} {G : Hp} : ∀ n : Nat, Cells Z G (List.replicate n .U) (List.replicate n none) []
  | 0 => .nil
  | n + 1 => .U (cells_none n)
theorem cells_start {Z : Wo} {G : Hp} {N : List Str} {vs : List V} {ds : List D} {n : Nat} (r : RpAll Z G vs ds) (h : N.length = ds.length + n) : Cells Z G (startE ds n) (L2.start N vs) [] := by
  unfold startE L2.start
  have e : N.length - vs.length = n := by
    rw [r.length, h]
    omega
  rw [e]
  exact cells_more (cells_none n) r
end Dm

set_option Elab.async false
set_option linter.all false
set_option maxRecDepth 100000
set_option maxHeartbeats 2000000
namespace Dm
open PySem PySem.Spec PyProof.Rows L2

/-! ### try: several clauses, each with a name or without -/
/-- D, the clause's name let go behind it -/
def gone (E : Ends) : Option Nat → Ends
  | none => E
  | some i => { nx := fun σ H => E.nx (σ.set i none) H, rt := E.rt, bk := fun σ H => E.bk (σ.set i none) H, ct := fun σ H => E.ct (σ.set i none) H }
def held (σ : Sl) (a : Addr) : Option Nat → Sl
  | none => σ
  | some i => σ.set i (some (.ref a))
abbrev Cls3 := Value × Option Nat × (Addr → Value → Option Addr → TS)
def wHs (K : PySem.W.Frag) (Wo : WX) (E : Ends) : List Cls3 → WX
  | [] => Wo
  | q :: r => fun cls d σ H => ∃ b, PySem.W.exmOne K cls q.1 = some b ∧ (b = true → ∀ a, H a = none → q.2.2 a cls d (gone E q.2.1) (held σ a q.2.1) H) ∧ (b = false → wHs K Wo E r cls d σ H)
/-- the clause's name is a slot -/
def Nm (X : Cx) : Option Str → Option Nat → Prop
  | none, none => True
  | some n, some i => X.N[i]? = some n ∧ X.env.kindOf n = some .local
  | _, _ => False
inductive HdsA (X : Cx) : List ExceptHandler → List Cls3 → Prop
  | nil : HdsA X [] []
  | cons {x : Str} {n : Option Str} {i : Option Nat} {c : Value} {ts : Addr → Value → Option Addr → TS} {b₀ : Stmt} {sts : List Stmt} {p1 p2 : Pos} {hs : List ExceptHandler} {l : List Cls3} (hc : Names X x c) (hn : Nm X n i)
      (hu : ∀ (a : Addr) (oe : Obj) (cls : Value) (d : Option Addr) (pn : List (Addr × Obj)), Zc cls d oe → (∃ vs, oe.data = .fields vs) → PSs (X.suite a ((a, oe) :: pn)) (b₀ :: sts) (ts a cls d)) (r : HdsA X hs l) :
      HdsA X (.ExceptHandler (some (.Name x p1)) n (b₀ :: sts) p2 :: hs) ((c, i, ts) :: l)
section
variable {X : Cx} {body : List Stmt} {k0 : ExceptHandler} {ks : List ExceptHandler} {l : List Cls3} {pos : Pos} {tb : WX → TS} {Wo : WX}
theorem ps_tryA (hst : X.stack = X.env :: X.outer) (hfr : X.env.frame = some X.env.locals) (hN : X.N.Nodup) (tk : Takes X Wo)
    (hb : ∀ (W : WX) (pn : List (Addr × Obj)) (xe : Value → Shared → Prop), Takes (X.tr pn xe) W → PassesOwn (model X.prog X.w) X.A X.env xe → PSs (X.tr pn xe) body (tb W)) (hh : HdsA X (k0 :: ks) l) :
    PS X (.Try body (k0 :: ks) [] [] pos) (fun E σ H => tb (wHs X.K Wo E l) E σ H) := by
  constructor
  intro pins s σ H D I hw
  have okX := I.ok
  have frames : X.A.frames = some (X.env :: X.outer) := by
    rw [okX.frames, hst]
  apply wpAny_Try_except
  let xe' : Value → Shared → Prop := fun e u1 => wpAny (model X.prog X.w) X.A (noteFrame e X.env) (fun _ u2 => wpAny (model X.prog X.w) X.A (setFlight e none) (fun _ u3 => wpAny (model X.prog X.w) X.A (handleBy e X.env (k0 :: ks)) (SP X pins D) X.xe u3) X.xe u2) X.xe u1
  have B1 := hb (wHs X.K Wo D l) (X.pn ++ pins) xe' (fun u t0 xx => ?caught) PassesOwn.looking
  case caught =>
    obtain ⟨a, B, sI, pins', σ1, H1, cls, d, rfl, I', nb, up, sky, na, os, ag, wish⟩ := xx
    have I1 : Inv X pins σ1 H1 sI := I'.ofTry okX
    have sky1 : Sky B (X.env :: X.outer) a (Zc cls d) X.env.locals t0.heap := by
      rw [← hst]
      exact sky
    refine (Sky.land Zc.steady frames hfr sky1 fun g3 fly3 up3 => ?_ : wpAny (model X.prog X.w) X.A (noteFrame (.ref a) X.env) _ _ _)
    have I3 : Inv X pins σ1 H1 { t0 with heap := g3 } := I1.landed nb fly3.1 (up.trans up3) os ag
    obtain ⟨o3, w3, at3, z3, dt3⟩ := fly3.there
    have far : a ∉ frs (X.env :: X.outer) := fun hm => by
      obtain ⟨_, o', e', hno⟩ := fly3.2.2.1.mem hm
      rw [at3] at e'
      cases e'
      exact hno _ dt3
    have aL : a ≠ X.env.locals := fun z => far (List.mem_filterMap.mpr ⟨X.env, List.mem_cons_self, by rw [hfr, z]⟩)
    have aF : a ∉ X.fs := fun hm => by
      obtain ⟨e, he, q⟩ := List.mem_filterMap.mp hm
      exact far (List.mem_filterMap.mpr ⟨e, List.mem_cons_of_mem _ he, q⟩)
    have S3 := I3.suite at3 dt3 na aL aF
    have each : ∀ {hs' : List ExceptHandler} {l' : List Cls3}, HdsA X hs' l' → wHs X.K Wo D l' cls d σ1 H1 → wpAny (model X.prog X.w) X.A (handleBy (.ref a) X.env hs') (SP X pins D) X.xe { t0 with heap := g3 } := by
      intro hs' l' hk
      induction hk with
      | nil =>
        intro wsh
        refine wpAny_handleBy_nil ?_
        obtain ⟨j1, j2, j3, oe, vs, T, oT, ts', he, hz, hd, h1, hr⟩ := id fly3
        unfold PySem.passOn
        refine wpAny_bind (wpAny_field he hd h1 ?_)
        have nn : ¬ ((Value.ref T == Value.none) = true) := by simp
        rw [if_neg nn]
        have last : wpAny (model X.prog X.w) X.A (setFlight (.ref a) X.env.frame) (fun _ u4 => wpAny (model X.prog X.w) X.A (throw (.ref a) : Sem Flow) (SP X pins D) X.xe u4) X.xe { t0 with heap := g3 } := by
          rw [hfr]
          refine HandSPX.setFlight_upZ fly3 fun g4 gg4 up4 => wpAny_throw (tk _ _ ?_)
          exact ⟨a, B, sI, pins, σ1, H1, cls, d, rfl, I1, nb, (up.trans up3).trans up4, .inr (.inr (by rw [hst]; exact gg4)), na, os, ag, wsh⟩
        first
          | exact wpAny_bind (wpAny_pure (wpAny_bind last))
          | exact wpAny_bind last
      | @cons x n i c ts b₀ sts p1 p2 hs2 l2 hc hn hu r ih =>
        intro wsh
        obtain ⟨b, hb1, yes, no⟩ := wsh
        refine wpAny_handleBy_cons (codeAny_handlers_test ?_) (by intro q; cases q)
        have look : PySem.W.Looks (model X.prog X.w) g3 (typeOf (.ref a)) cls := fun A Q E s k q => wpAny_typeOf_ref (k _ _ at3) (by rw [z3.1]; exact q)
        have match1 := PySem.W.exm_one (M := model X.prog X.w) I3.kIn look hb1
        have names : ∀ {Q : Value → Shared → Prop} {E : Value → Shared → Prop}, Q c { t0 with heap := g3 } → wpAny (model X.prog X.w) (X.A.mark (some (.ref a))) (eval (.Name x p1) X.env) Q E { t0 with heap := g3 } := fun {Q E} q => by
          obtain ⟨hg, hdb, hm | ⟨hm, hv, hnn⟩⟩ := hc
          · exact ld_glob (X := X.suite a ((a, o3) :: (X.pn ++ pins))) S3 hg hm q hdb
          · exact ld_blt (X := X.suite a ((a, o3) :: (X.pn ++ pins))) S3 hg hm hv q hnn hdb
        refine names (match1.here ?_)
        cases b with
        | false => exact ih (no rfl)
        | true =>
          have yes1 := yes rfl a na
          cases n with
          | none =>
            cases i with
            | some i => exact hn.elim
            | none =>
              refine codeAny_handlers_suite (HandSPX.lands_againZ fly3 fun g4 fly4 up4 => ?_)
              have I4 : Inv X pins σ1 H1 { t0 with heap := g4 } := I1.landed nb fly4.1 ((up.trans up3).trans up4) os ag
              obtain ⟨o4, w4, at4, z4, dt4⟩ := fly4.there
              have S4 := I4.suite at4 dt4 na aL aF
              refine wpAny_mono ((hu a o4 cls d (X.pn ++ pins) z4 ⟨_, dt4⟩).run [] _ _ H1 _ S4 yes1) (fun f u6 sp => ?_) (fun _ _ z => z.elim)
              cases f with
              | ret u =>
                obtain ⟨v6, σ6, H6, S6, r6, q6⟩ := sp
                exact ⟨_, _, _, S6.unsuite okX, r6, q6⟩
              | next =>
                obtain ⟨σ6, H6, S6, q6⟩ := sp
                exact ⟨_, _, S6.unsuite okX, q6⟩
              | cont =>
                obtain ⟨σ6, H6, S6, q6⟩ := sp
                exact ⟨_, _, S6.unsuite okX, q6⟩
              | brk =>
                obtain ⟨σ6, H6, S6, q6⟩ := sp
                exact ⟨_, _, S6.unsuite okX, q6⟩
          | some nm =>
            cases i with
            | none => exact hn.elim
            | some i =>
              obtain ⟨hi, hl⟩ := hn
              refine codeAny_handlers_suite_as (HandSPX.lands_againZ fly3 fun g4 fly4 up4 => ?_)
              have I4 : Inv X pins σ1 H1 { t0 with heap := g4 } := I1.landed nb fly4.1 ((up.trans up3).trans up4) os ag
              obtain ⟨o4, w4, at4, z4, dt4⟩ := fly4.there
              have S4 := I4.suite at4 dt4 na aL aF
              refine store_ok (X := X.suite a ((a, o4) :: (X.pn ++ pins))) (v := .ref a) S4 hN hi (.inl hl) rfl (fun u5 S5 => ?_) (.inr hl)
              refine wpAny_mono ((hu a o4 cls d (X.pn ++ pins) z4 ⟨_, dt4⟩).run [] u5 _ H1 _ S5 yes1) (fun f u6 sp => ?_) (fun _ _ z => z.elim)
              have drop1 : ∀ {σ6 : L2.St} {H6 : Hp} {Q : Shared → Prop}, Inv (X.suite a ((a, o4) :: (X.pn ++ pins))) [] σ6 H6 u6 → (∀ u7, Inv X pins (σ6.set i none) H6 u7 → Q u7) →
                  wpAny (model X.prog X.w) X.A (do bindName X.env nm .none; unbindBehindTheSuite X.env nm p2) (fun _ u7 => Q u7) X.xe u6 := fun {σ6 H6 Q} S6 hq => gone_ok (S6.unsuite okX) hN hi hl hq
              cases f with
              | ret u =>
                obtain ⟨v6, σ6, H6, S6, r6, q6⟩ := sp
                exact drop1 S6 fun u7 J7 => ⟨_, _, _, J7, r6, q6⟩
              | next =>
                obtain ⟨σ6, H6, S6, q6⟩ := sp
                exact drop1 S6 fun u7 J7 => ⟨_, _, J7, q6⟩
              | cont =>
                obtain ⟨σ6, H6, S6, q6⟩ := sp
                exact drop1 S6 fun u7 J7 => ⟨_, _, J7, q6⟩
              | brk =>
                obtain ⟨σ6, H6, S6, q6⟩ := sp
                exact drop1 S6 fun u7 J7 => ⟨_, _, J7, q6⟩
    exact each hh wish
  refine wpAny_mono (B1.run [] s σ H D (I.toTry _) hw) (fun f u1 sp => ?_) fun _ _ he => he
  cases f with
  | ret u =>
    obtain ⟨v, σ1, H1, I1, r, q⟩ := sp
    exact ⟨v, σ1, H1, I1.ofTry okX, r, q⟩
  | cont =>
    obtain ⟨σ1, H1, I1, q⟩ := sp
    exact ⟨σ1, H1, I1.ofTry okX, q⟩
  | brk =>
    obtain ⟨σ1, H1, I1, q⟩ := sp
    exact ⟨σ1, H1, I1.ofTry okX, q⟩
  | next =>
    obtain ⟨σ1, H1, I1, q⟩ := sp
    exact wpAny_execs_nil ⟨σ1, H1, I1.ofTry okX, q⟩
end

/-! ### an own error's __init__ : Base.__init__(self, text), Base an own class without an __init__ -/
/-- what is known of Base, at C -/
structure BaseC (K : PySem.W.Frag) (mg : Str → Option Value) (x : Str) (C : Addr) : Prop where
  g : mg x = some (.ref C)
  sp : PySem.W.specialIn K (.ref C) "__getattribute__" = some (some (.builtin "type.__getattribute__"))
  rd : PySem.W.readsIn K C (.type "type") = true
  vI : PySem.W.findCls K (.ref C) (.type "type") "__init__" = some (.val (.builtin "ValueError.__init__"))
section
variable {X : Cx} {e : Expr} {es : List Expr} {ta : TA} {p1 p2 pos : Pos} {C : Addr} {x : Str}
theorem pe_base {pl : Sem Bool} (T : BaseC X.K X.mg x C) (hg : Gl X x) (ha : PA X (e :: es) ta) (hx : (x == ("__debug__" : Str)) = false := by decide)
    (hc : eval (.Call (.Attribute (.Name x p1) "__init__" p2) (e :: es) [] pos) X.env = (do
      let o ← eval (.Name x p1) X.env
      standAt p2.atName
      let (f, first) ← holding [o] (getMethod o "__init__" pl)
      callWith pos f first (backTo pos (starEach (e :: es) X.env)) (backToKw pos (keywordEach [] X.env))) := by rfl)
    (he : starEach (e :: es) X.env = (false, eval e X.env) :: starEach es X.env := by rfl) (hpl : (backTo pos (starEach es X.env)).any (·.1) = false := by rfl) :
    PE X (.Call (.Attribute (.Name x p1) "__init__" p2) (e :: es) [] pos) (tVeI X.K ta) := by
  constructor
  intro pins s σ H Q I h
  refine PySem.W.methodCall_KW (ld_glob I hg T.g ?_ hx) hc
  refine PySem.W.method_cls I.kIn T.sp (PySem.W.cls_value I.kIn T.rd T.vI (by decide +kernel) ?_)
  show wpAny _ _ (callWith pos (Value.builtin "ValueError.__init__") [] (backTo pos (starEach (e :: es) X.env)) []) _ _ _
  refine PyProof.Rows.callWith_method1 (thn (ha.run pos pins _ σ H _ (I.tok _) h) fun us u1 hu => ?_) he hpl
  obtain ⟨vs, H1, I1, r1, a, C1, ws, rfl, hl, T1, ea, q⟩ := hu
  cases r1 with
  | @cons _ u0 _ ur ra rw1 =>
    cases (show u0 = Value.ref a from ra)
    refine oinit_ok T1 I1 ea ?_ fun s' I2 => ⟨.non, H1, I2, rfl, q⟩
    rw [← Paired.length rw1]
    exact Nat.le_trans hl (by decide)
end
/-- the promise of such an __init__: the fields in the order of their making, the newest ahead -/
def spIni (C : Addr) (fn : List Str) (ok : List V → Prop) : Sp := fun vs H Q _ => ∃ (a : Addr) (ys : List V), vs = .ref a :: ys ∧ ys.length = fn.length ∧ ok ys ∧ H a = some (exo a C none) ∧
  ∀ d H2, (∀ b o, H b = some o → b ≠ a → H2 b = some o) → H d = none → d ≠ a → H2 a = some (exo a C (some d)) → H2 d = some (exd d (fn.zip ys.reverse)) → Q .non H2
section
variable {K : PySem.W.Frag} {C a : Addr} {te : TE} {f f1 f2 : Str} {x y : V} {H : Hp} {Q : VK} {ok : List V → Prop}
/-- self.f = x alone; te: the text -/
theorem ini1 (T : OexC K C) (hno : PySem.W.findIn K (.ref C) f = some none) (h : spIni C [f] ok [.ref a, x] H Q (fun _ _ _ => False)) (ht : ok [x] → ∀ σ : Sl, σ = [some (.ref a), some x] → ∀ H' (R : VK), (∀ z, R (.str z) H') → te σ H' R) :
    tSeq (tDrop (tVeI K (tCons (tVar 0) (tCons te tNil)))) (tOst K f (tVar 0) (tVar 1)) (ends Q) [some (.ref a), some x] H := by
  obtain ⟨a', ys, e, hl, ho, ha, k⟩ := h
  cases e
  refine ⟨.ref a, rfl, ht ho _ rfl H _ fun z => ⟨a, C, _, rfl, (by show 1 ≤ 1000; decide), T, ha, ?_⟩⟩
  refine ⟨x, rfl, .ref a, rfl, a, C, rfl, T, hno, .inl ⟨ha, fun dx hd ne => ?_⟩⟩
  refine k dx _ (fun b o hb nb => ?_) hd ne upd_same ?_
  · rw [upd_ne nb, upd_ne (ne_of_none hb hd)]
    exact hb
  · rw [upd_ne ne, upd_same]
    rfl
theorem ini2 (T : OexC K C) (hn1 : PySem.W.findIn K (.ref C) f1 = some none) (hn2 : PySem.W.findIn K (.ref C) f2 = some none) (h : spIni C [f2, f1] ok [.ref a, x, y] H Q (fun _ _ _ => False))
    (ht : ok [x, y] → ∀ σ : Sl, σ = [some (.ref a), some x, some y] → ∀ H' (R : VK), (∀ z, R (.str z) H') → te σ H' R) :
    tSeq (tDrop (tVeI K (tCons (tVar 0) (tCons te tNil)))) (tSeq (tOst K f1 (tVar 0) (tVar 1)) (tOst K f2 (tVar 0) (tVar 2))) (ends Q) [some (.ref a), some x, some y] H := by
  obtain ⟨a', ys, e, hl, ho, ha, k⟩ := h
  cases e
  refine ⟨.ref a, rfl, ht ho _ rfl H _ fun z => ⟨a, C, _, rfl, (by show 1 ≤ 1000; decide), T, ha, ?_⟩⟩
  refine ⟨x, rfl, .ref a, rfl, a, C, rfl, T, hn1, .inl ⟨ha, fun dx hd ne => ?_⟩⟩
  refine ⟨y, rfl, .ref a, rfl, a, C, rfl, T, hn2, .inr ⟨dx, _, upd_same, by rw [upd_ne ne, upd_same], (by show 1 ≤ 900; decide), ?_⟩⟩
  refine k dx _ (fun b o hb nb => ?_) hd ne ?_ upd_same
  · rw [upd_ne (ne_of_none hb hd), upd_ne nb, upd_ne (ne_of_none hb hd)]
    exact hb
  · rw [upd_ne ne.symm, upd_same]
theorem tfmt_int {σ : Sl} {i : Int} {n : Nat} {R : VK} (h : σ[n]? = some (some (.int i))) (hi : i.natAbs.log2 < 1920) (k : ∀ z, R (.str z) H) : tFmt (tVar n) σ H R := ⟨_, h, .inr ⟨i, rfl, hi, k _⟩⟩
theorem tfmt_str {σ : Sl} {i : Str} {n : Nat} {R : VK} (h : σ[n]? = some (some (.str i))) (hi : i.length < tooLong) (k : ∀ z, R (.str z) H) : tFmt (tVar n) σ H R := ⟨_, h, .inl ⟨i, rfl, long_ok hi, k _⟩⟩
end
section
variable {S : Type} {J : Jc S} {α β γ δ τ : Type} {ρ esc : Env} {σ : Sl} {G G' H : Hp} {L : Led} {T : Ends → Prop} {E : Ends}
/-! ### raise -/
theorem sv_raise {c : Nat} {ta : TA} {ma : MS S (List D)} {ok : List V → Prop} {okD : List D → Bool} {fin : β → Fin} (h : EvA J ta ρ ma) (w : Wk ρ esc) (hok : ∀ G ys ds, RpAll J.Z G ys ds → okD ds = true → ds.length = (J.Z.fn c).length ∧ (J.Z.fn c).length ≤ 1000 ∧ ok ys) :
    Sv J T esc (fun _ σ H => tMkO (J.Z.cl c) (spIni (J.Z.cl c) (J.Z.fn c) ok) [] ta σ H fun cls d H' => J.X cls d σ H') ρ (bnd ma fun ds => if okD ds = true then rse c ds.reverse else stk) fin := fun σ G s H L o E _ q =>
  h.runS o w q fun ds vs G1 s1 H1 e1 o1 r q1 => by
    by_cases hd : okD ds = true
    · rw [if_pos hd] at q1
      obtain ⟨hl, hm, hk⟩ := hok G1 vs ds r hd
      have hv : vs.length = (J.Z.fn c).length := r.length.trans hl
      refine ⟨by rw [hv]; exact hm, fun a ha => ⟨a, vs, by rw [List.append_nil], hv, hk, upd_same, fun d H2 k2 hdn ne e2 e3 => ⟨rfl, d, _, e2, e3, ?_, ?_⟩⟩⟩
      · rw [upd_ne ne] at hdn
        exact hdn
      · rw [upd_ne ne] at hdn
        have keep : ∀ b x, H1 b = some x → upd (del H2 a) d (.xd ((J.Z.fn c).zip vs.reverse)) b = some x := fun b x hb => by
          have nb : b ≠ a := ne_of_none hb ha
          rw [upd_ne (ne_of_none hb hdn), del_ne nb]
          exact k2 b x (by rw [upd_ne nb]; exact hb) nb
        have sm : Same G1 (upd G1 d (.xd ((J.Z.fn c).zip vs.reverse))) := same_new (o1.same.free hdn)
        have o2 : Ok J.Z (J.lay s1) ρ (upd G1 d (.xd ((J.Z.fn c).zip vs.reverse))) σ L (upd (del H2 a) d (.xd ((J.Z.fn c).zip vs.reverse))) := by
          refine ⟨o1.1.mono sm, ?_, o1.2.nd, fun p hp => ?_⟩
          · intro b x hb
            by_cases e : b = d
            · subst e
              rw [upd_same] at hb ⊢
              exact hb
            · rw [upd_ne e] at hb
              exact keep b x (o1.same _ _ hb)
          · obtain ⟨h1, h2⟩ := o1.2.own p hp
            refine ⟨keep _ _ h1, ?_⟩
            rw [upd_ne (ne_of_none h1 hdn)]
            exact h2
        obtain ⟨L', o3⟩ := o2.weak w
        refine q1 σ d vs.reverse _ _ L' sm o3 upd_same (by rw [List.length_reverse, hv]) ?_
        have rev : ∀ {xs : List V} {es : List D}, RpAll J.Z G1 xs es → RpAll J.Z G1 xs.reverse es.reverse := fun {xs es} rr => by
          induction rr using RpAll.rec (motive_1 := fun _ _ _ => True) with
          | nil => exact .nil
          | cons h1 h2 _ ih =>
            rw [List.reverse_cons, List.reverse_cons]
            exact ih.append (.one h1)
          | _ => trivial
        exact (rev r).mono sm
    · rw [if_neg hd] at q1
      exact q1.elim

/-! ### try -/
/-- what is known of an error that is caught -/
def xF (Z : Wo) (dx : Addr) (c : Nat) (fs : List D) (G : Hp) : Prop := ∃ vs, G dx = some (.xd ((Z.fn c).zip vs)) ∧ (Z.fn c).length = vs.length ∧ RpAll Z G vs fs
theorem xF.mono {Z : Wo} {dx : Addr} {c : Nat} {fs : List D} (h : xF Z dx c fs G) (s : Same G G') : xF Z dx c fs G' := by
  obtain ⟨vs, h1, h2, h3⟩ := h
  exact ⟨vs, s _ _ h1, h2, h3.mono s⟩
def fld (fn : List Str) (fs : List D) (f : Str) : Option D := (fn.zip fs).lookup f
theorem zip_look {Z : Wo} {f : Str} {d : D} : ∀ {fn : List Str} {vs : List V} {fs : List D}, RpAll Z G vs fs → (fn.zip fs).lookup f = some d → ∃ v, (fn.zip vs).lookup f = some v ∧ Rp Z G v d
  | [], _, _, _, e => by
    rw [List.zip_nil_left] at e
    cases e
  | _ :: _, _, _, .nil, e => by
    rw [List.zip_nil_right] at e
    cases e
  | n :: fn, v :: vs, g :: fs, .cons h r, e => by
    rw [List.zip_cons_cons, List.lookup_cons] at e ⊢
    cases hf : f == n with
    | true =>
      rw [hf] at e
      dsimp only at e ⊢
      cases e
      exact ⟨v, rfl, h⟩
    | false =>
      rw [hf] at e
      exact zip_look r e
theorem ev_xf {i : Nat} {a dx : Addr} {c : Nat} {fs : List D} {f : Str} (hi : ρ[i]? = some (.A a (xF J.Z dx c fs))) : Ev J (tXf a (.ref (J.Z.cl c)) (some dx) (J.Z.cl c) f (tVar i)) ρ (lft (fld (J.Z.fn c) fs f)) := fun σ G s H L o Q q =>
  Pst.lft q fun d hd q1 => by
    obtain ⟨h1, vs, h2, h3, h4⟩ := o.1.hand hi
    obtain ⟨v, h5, h6⟩ := zip_look h4 hd
    exact ⟨.ref a, h1, rfl, rfl, dx, _, v, rfl, o.same _ _ h2, h5, q1 v G H (Same.refl _) o h6⟩
/-- nothing is raised within -/
abbrev Jc.quiet (J : Jc S) : Jc S := { J with X := fun _ _ _ _ => False }
abbrev Jc.to (J : Jc S) (X : WX) : Jc S := { J with X := X }
def Rs.cat (r : Rs S β) (f : Nat → List D → S → Rs S β) : Rs S β := match r with
  | .ex c fs s => f c fs s
  | r => r
def pick (o : Option (List D → MS S β)) (c : Nat) (fs : List D) : MS S β := match o with
  | some h => nex (h fs)
  | none => rse c fs
def hsM (n : Nat) (hs : List (Nat × (List D → MS S β))) (c : Nat) (fs : List D) : MS S β := if c < n then pick (hs.lookup c) c fs else stk
def tryM (n : Nat) (m : MS S β) (hs : List (Nat × (List D → MS S β))) : MS S β := fun s => (m s).cat (hsM n hs)
/-- the clauses, one by one -/
inductive HsS (J : Jc S) (T : Ends → Prop) (esc escB : Env) (fin : β → Fin) : List Cls3 → List (Nat × (List D → MS S β)) → Prop
  | nil : HsS J T esc escB fin [] []
  | name {c i : Nat} {ts : Addr → Value → Option Addr → TS} {h : List D → MS S β} {l : List Cls3} {hs : List (Nat × (List D → MS S β))}
      (hu : ∀ a dx fs, Sv J.quiet T (escB.set i (.A a (xF J.Z dx c fs))) (ts a (.ref (J.Z.cl c)) (some dx)) (escB.set i (.A a (xF J.Z dx c fs))) (h fs) fin) (r : HsS J T esc escB fin l hs) : HsS J T esc escB fin ((.ref (J.Z.cl c), some i, ts) :: l) ((c, h) :: hs)
  | bare {c : Nat} {ts : Addr → Value → Option Addr → TS} {h : List D → MS S β} {l : List Cls3} {hs : List (Nat × (List D → MS S β))}
      (hu : ∀ a dx fs, Sv J.quiet T escB (ts a (.ref (J.Z.cl c)) (some dx)) escB (h fs) fin) (r : HsS J T esc escB fin l hs) : HsS J T esc escB fin ((.ref (J.Z.cl c), none, ts) :: l) ((c, h) :: hs)
theorem Cells.setA {Z : Wo} {a : Addr} {F : Hp → Prop} (r : ∀ G', Same G G' → F G') : ∀ {e : Env} {σ : Sl} {L : Led} (i : Nat), Cells Z G e σ L → ∃ L', List.Sublist L' L ∧ Cells Z G (e.set i (.A a F)) (σ.set i (some (.ref a))) L'
  | _, _, _, _, .nil => ⟨_, List.Sublist.refl _, .nil⟩
  | _, _, _, 0, .U c => ⟨_, List.Sublist.refl _, .A r c⟩
  | _, _, _, 0, .P q c => ⟨_, List.Sublist.refl _, .A r c⟩
  | _, _, _, 0, .O q c => ⟨_, List.sublist_cons_self _ _, .A r c⟩
  | _, _, _, 0, .A f c => ⟨_, List.Sublist.refl _, .A r c⟩
  | _, _, _, 0, .Q q c => ⟨_, (List.sublist_append_right _ _).cons _, .A r c⟩
  | _, _, _, i + 1, .Q q c => by
    obtain ⟨L', s, c'⟩ := c.setA r i
    exact ⟨_, ((List.Sublist.refl _).append s).cons₂ _, .Q q c'⟩
  | _, _, _, i + 1, .U c => by
    obtain ⟨L', s, c'⟩ := c.setA r i
    exact ⟨L', s, .U c'⟩
  | _, _, _, i + 1, .P q c => by
    obtain ⟨L', s, c'⟩ := c.setA r i
    exact ⟨L', s, .P q c'⟩
  | _, _, _, i + 1, .O q c => by
    obtain ⟨L', s, c'⟩ := c.setA r i
    exact ⟨_, s.cons₂ _, .O q c'⟩
  | _, _, _, i + 1, .A f c => by
    obtain ⟨L', s, c'⟩ := c.setA r i
    exact ⟨L', s, .A f c'⟩
theorem Ok.setA {B : Led} {i : Nat} {a : Addr} {F : Hp → Prop} (r : ∀ G', Same G G' → F G') (o : Ok J.Z B ρ G σ L H) : ∃ L', Ok J.Z B (ρ.set i (.A a F)) G (σ.set i (some (.ref a))) L' H := by
  obtain ⟨L', s, c'⟩ := o.1.setA (a := a) r i
  exact ⟨L', c', o.2.sub (List.Sublist.append s (List.Sublist.refl _))⟩
/-- the ends of a clause: what it hands back; other ends with its name let go -/
theorem Fo.gone {s : S} {i : Option Nat} {d : D} (h : Fo J G E s (.rt d)) : Fo J.quiet G (gone E i) s (.rt d) := by
  cases i <;> exact h
theorem sv_try {K : PySem.W.Frag} {n : Nat} {tb : WX → TS} {l : List Cls3} {hs : List (Nat × (List D → MS S D))} {m : MS S D} {escB : Env} (hT : ∀ E i, T E → T (gone E i)) (hx : ∀ c c', c < n → c' < n → PySem.W.exmOne K (.ref (J.Z.cl c)) (.ref (J.Z.cl c')) = some (decide (c = c')))
    (hn : ∀ p ∈ hs, p.1 < n) (we : Wk escB esc) (hb : ∀ X, Sv (J.to X) T escB (tb X) ρ m Fin.rt) (hh : HsS J T esc escB Fin.rt l hs) : Sv J T esc (fun E σ H => tb (wHs K J.X E l) E σ H) ρ (tryM n m hs) Fin.rt := fun σ G s H L o E ht q => by
  refine hb (wHs K J.X E l) σ G s H L o E ht ?_
  have q1 : Pss J esc G E Fin.rt ((m s).cat (hsM n hs)) := q
  cases e : m s with
  | stuck =>
    rw [e] at q1
    exact q1
  | ok d s' =>
    rw [e] at q1
    exact q1
  | ex c fs s' =>
    rw [e] at q1
    have q2 : Pss J esc G E Fin.rt (hsM n hs c fs s') := q1
    unfold hsM at q2
    by_cases hc : c < n
    · rw [if_pos hc] at q2
      intro σ1 dx vs G1 H1 L1 sm o1 hd hl hr
      have known : xF J.Z dx c fs G1 := ⟨vs, hd, hl, hr⟩
      have ran : ∀ {h : List D → MS S D} {i : Option Nat}, Pss J esc G E Fin.rt (pick (some h) c fs s') → ∀ esc', Pss J.quiet esc' G1 (gone E i) Fin.rt (h fs s') := fun {h i} q3 esc' => by
        have q4 : Pss J esc G E Fin.rt (nex (h fs) s') := q3
        unfold nex at q4
        cases e3 : h fs s' with
        | stuck => rw [e3] at q4; exact q4
        | ex _ _ _ => rw [e3] at q4; exact q4.elim
        | ok d s2 => rw [e3] at q4; exact Fo.gone (Fo.mono sm q4)
      have each : ∀ {l' : List Cls3} {hs' : List (Nat × (List D → MS S D))}, HsS J T esc escB Fin.rt l' hs' → (∀ p ∈ hs', p.1 < n) → Pss J esc G E Fin.rt (pick (hs'.lookup c) c fs s') → wHs K J.X E l' (.ref (J.Z.cl c)) (some dx) σ1 H1 := by
        intro l' hs' hk
        induction hk with
        | nil =>
          intro _ q3
          obtain ⟨L2, o2⟩ := o1.weak we
          exact q3 σ1 dx vs G1 H1 L2 sm o2 hd hl hr
        | @name c' i ts h l2 hs2 hu r ih =>
          intro hn2 q3
          have hc' : c' < n := hn2 (c', h) (by simp)
          refine ⟨_, hx c c' hc hc', fun hb a ha => ?_, fun hb => ?_⟩
          · have ec : c = c' := of_decide_eq_true hb
            subst ec
            rw [List.lookup_cons_self] at q3
            obtain ⟨L2, o2⟩ := o1.setA (i := i) (a := a) (F := xF J.Z dx c fs) fun G' s' => xF.mono known s'
            exact hu a dx fs _ G1 s' H1 L2 o2 _ (hT E (some i) ht) (ran q3 _)
          · have ec : c ≠ c' := of_decide_eq_false hb
            rw [List.lookup_cons, beq_false_of_ne ec] at q3
            exact ih (fun p hp => hn2 p (by simp [hp])) q3
        | @bare c' ts h l2 hs2 hu r ih =>
          intro hn2 q3
          have hc' : c' < n := hn2 (c', h) (by simp)
          refine ⟨_, hx c c' hc hc', fun hb a ha => ?_, fun hb => ?_⟩
          · have ec : c = c' := of_decide_eq_true hb
            subst ec
            rw [List.lookup_cons_self] at q3
            exact hu a dx fs _ G1 s' H1 L1 o1 _ (hT E none ht) (ran q3 _)
          · have ec : c ≠ c' := of_decide_eq_false hb
            rw [List.lookup_cons, beq_false_of_ne ec] at q3
            exact ih (fun p hp => hn2 p (by simp [hp])) q3
      exact each hh hn q2
    · rw [if_neg hc] at q2
      exact q2.elim
theorem ta_gone : ∀ E i, Ta E → Ta (gone E i) := fun _ _ _ => trivial
theorem tl_gone : ∀ E i, Tl E → Tl (gone E i) := fun E i h => by
  cases i with
  | none => exact h
  | some i => exact fun σ H q => h (σ.set i none) H q
end
end Dm

set_option Elab.async false
set_option linter.all false
set_option maxRecDepth 100000
set_option maxHeartbeats 2000000
namespace Dm
open PySem PySem.Spec PyProof.Rows L2

/-! ### the hand: what is drawn from -/
structure Hd where
  pos : Int
  rest : Int
  total : Int
def hHO (c : Addr) (h : Hd) : HO := .lst [.ref c, .int h.pos, .int h.rest, .int h.total]
def hF (c : Addr) (cells : List Int) (G : Hp) : Prop := G c = some (.lst (cells.map V.int))
/-- the hand stands at p, its cells at c -/
def HandJ (J : Jc Hd) (p c : Addr) : Prop := ∃ L1 L2, ∀ h, J.lay h = L1 ++ (p, hHO c h) :: L2
theorem HandJ.add {J : Jc Hd} {p c q : Addr} {xs : List V} (h : HandJ J p c) : HandJ (J.add q xs) p c := by
  obtain ⟨L1, L2, e⟩ := h
  exact ⟨(q, .lst xs) :: L1, L2, fun hd => by
    show (q, HO.lst xs) :: J.lay hd = _
    rw [e]
    rfl⟩
theorem HandJ.to {J : Jc Hd} {p c : Addr} {X : WX} (h : HandJ J p c) : HandJ (J.to X) p c := h
theorem rp_ints {Z : Wo} {G : Hp} : ∀ ns : List Int, RpAll Z G (ns.map V.int) (ns.map D.int)
  | [] => .nil
  | n :: ns => .cons (.int n) (rp_ints ns)
def spD (Z : Wo) (m : List Int → List D → MS Hd D) : Sp := fun vs H Q E => ∃ (p c : Addr) (cells : List Int) (L0 : Led) (G : Hp) (h : Hd) (vs' : List V) (ds : List D), vs = .ref p :: vs' ∧ hF c cells G ∧ Wd G ((p, hHO c h) :: L0) H ∧ RpAll Z G vs' ds ∧
  EndP Z (fun h => (p, hHO c h) :: L0) G Q E (m cells ds h)
theorem spD_len {Z : Wo} {m : List Int → List D → MS Hd D} {n : Nat} (hm : ∀ cs ds, ds.length + 1 ≠ n → m cs ds = stk) {vs : List V} {H : Hp} {Q : VK} {E : XK} (h : spD Z m vs H Q E) : vs.length = n := by
  obtain ⟨p, c, cells, L0, G, hd, vs', ds, rfl, hf, w, r, e⟩ := h
  by_cases hl : ds.length + 1 = n
  · rw [List.length_cons, r.length, hl]
  · rw [hm cells ds hl] at e
    exact e.elim
section
variable {J : Jc Hd} {ρ esc : Env} {σ : Sl} {G G' H : Hp} {L : Led} {p c : Addr} {cells : List Int} {i : Nat}
theorem ev_callD {m : List Int → List D → MS Hd D} {dvs : List V} {dds : List D} {ta : TA} {ma : MS Hd (List D)} (hJ : HandJ J p c) (hi : ρ[i]? = some (.A p (hF c cells))) (h : EvA J ta ρ ma) (hd : ∀ G, RpAll J.Z G dvs dds := by intro _; repeat constructor) :
    Ev J (tCallSD (spD J.Z m) dvs (WE J.X) (tCons (tVar i) ta)) ρ (bnd ma fun ds => m cells (ds ++ dds)) := fun σ G s H L o Q q => by
  obtain ⟨L1, L2, el⟩ := hJ
  refine ⟨.ref p, (o.1.hand hi).1, h.run o q fun ds xs G1 s1 H1 e1 o1 r q1 => ?_⟩
  have pm : ∀ h, ((p, hHO c h) :: (L ++ (L1 ++ L2))).Perm (L ++ J.lay h) := fun h => by
    rw [el h]
    have := (List.perm_middle (a := (p, hHO c h)) (l₁ := L ++ L1) (l₂ := L2)).symm
    rw [List.append_assoc, List.append_assoc] at this
    exact this
  refine ⟨p, c, cells, L ++ (L1 ++ L2), G1, s1, xs ++ dvs, ds ++ dds, rfl, (o1.1.hand hi).2, o1.2.perm (pm s1), RpAll.append r (hd G1), ?_⟩
  cases e : m cells (ds ++ dds) s1 with
  | stuck =>
    rw [e] at q1
    exact q1
  | ex k fs s2 =>
    rw [e] at q1
    exact fun dx vs G' H' sm w a b rr => q1 dx vs G' H' sm ⟨o1.1.mono sm, w.perm (pm s2).symm⟩ a b rr
  | ok d s2 =>
    rw [e] at q1
    exact fun v G' H' sm w rr => q1 v G' H' sm ⟨o1.1.mono sm, w.perm (pm s2).symm⟩ rr
theorem hand_at {s : Hd} (hJ : HandJ J p c) (o : Ok J.Z (J.lay s) ρ G σ L H) : H p = some (hHO c s) := by
  obtain ⟨L1, L2, el⟩ := hJ
  exact (o.2.own (p, hHO c s) (by rw [el]; simp)).1
/-- hand[0], hand[1] .. -/
def hget (cells : List Int) (k : Nat) : MS Hd D := fun h => match k with
  | 0 => .ok (.lst (cells.map D.int)) h
  | 1 => .ok (.int h.pos) h
  | 2 => .ok (.int h.rest) h
  | 3 => .ok (.int h.total) h
  | _ => .stuck
theorem ev_hget {K : PySem.W.Frag} (k : Nat) (hJ : HandJ J p c) (hi : ρ[i]? = some (.A p (hF c cells))) (hk : k < 4 := by decide) : Ev J (tOp (rIx K) (tVar i) (tC (.int (k : Int)))) ρ (hget cells k) := fun σ G s H L o Q q => by
  have hp := hand_at hJ o
  obtain ⟨h1, h2⟩ := o.1.hand hi
  match k, hk with
  | 0, _ => exact ⟨.ref p, h1, .inl ⟨p, _, 0, .ref c, rfl, rfl, sq_l hp, rfl, q _ G H (Same.refl _) o (.lst h2 (rp_ints cells))⟩⟩
  | 1, _ => exact ⟨.ref p, h1, .inl ⟨p, _, 1, .int s.pos, rfl, rfl, sq_l hp, rfl, q _ G H (Same.refl _) o (.int _)⟩⟩
  | 2, _ => exact ⟨.ref p, h1, .inl ⟨p, _, 2, .int s.rest, rfl, rfl, sq_l hp, rfl, q _ G H (Same.refl _) o (.int _)⟩⟩
  | 3, _ => exact ⟨.ref p, h1, .inl ⟨p, _, 3, .int s.total, rfl, rfl, sq_l hp, rfl, q _ G H (Same.refl _) o (.int _)⟩⟩
def hput (k : Nat) (d : D) : MS Hd Unit := fun h => match k, d with
  | 1, .int i => .ok () { h with pos := i }
  | 2, .int i => .ok () { h with rest := i }
  | 3, .int i => .ok () { h with total := i }
  | _, _ => .stuck
theorem hand_put {s s' : Hd} {k : Nat} {z : Int} {v : V} (hJ : HandJ J p c) (o : Ok J.Z (J.lay s) ρ G σ L H) (e : hput k (.int z) s = .ok () s') (hv : v = .int z) : ∃ xs, H p = some (.lst xs) ∧ ixN xs.length (k : Int) = some k ∧ Ok J.Z (J.lay s') ρ G σ L (upd H p (.lst (xs.set k v))) := by
  have hp := hand_at hJ o
  have hJ' := hJ
  obtain ⟨L1, L2, el⟩ := hJ'
  subst hv
  have main : ∀ ys : List V, hHO c s' = .lst ys → Ok J.Z (J.lay s') ρ G σ L (upd H p (.lst ys)) := fun ys hy => by
    refine ⟨o.1, ?_⟩
    have w := o.2
    rw [el s, ← List.append_assoc] at w
    rw [el s', ← List.append_assoc, hy]
    exact w.put
  match k, e with
  | 1, e =>
    cases e
    exact ⟨_, hp, rfl, main _ rfl⟩
  | 2, e =>
    cases e
    exact ⟨_, hp, rfl, main _ rfl⟩
  | 3, e =>
    cases e
    exact ⟨_, hp, rfl, main _ rfl⟩
theorem sv_hput {te : TE} {m : MS Hd D} (k : Nat) (hJ : HandJ J p c) (hi : ρ[i]? = some (.A p (hF c cells))) (h : Ev J te ρ m) (w : Wk ρ esc) : Sv J Ta esc (tAsg te (gSub (tVar i) (tC (.int (k : Int))) rSetL)) ρ (bnd m fun d => hput k d) (fun _ => .nx ρ) := fun σ G s H L o E _ q =>
  h.runS o w q fun d v G1 s1 H1 e1 o1 r q1 => by
    refine ⟨.ref p, (o1.1.hand hi).1, ?_⟩
    cases d with
    | int z =>
      cases e : hput k (.int z) s1 with
      | stuck =>
        rw [e] at q1
        exact q1.elim
      | ex _ _ _ =>
        unfold hput at e
        split at e <;> cases e
      | ok u s2 =>
        rw [e] at q1
        obtain ⟨xs, h1, h2, h3⟩ := hand_put hJ o1 e (rX.int (J := J) (ρ := ρ) (σ := σ) (.inl r))
        exact ⟨p, xs, k, k, rfl, rfl, h1, h2, q1 σ G1 _ L (Same.refl _) h3⟩
    | _ =>
      exfalso
      unfold Pss hput at q1
      match k, q1 with
      | 0, q1 => exact q1
      | 1, q1 => exact q1
      | 2, q1 => exact q1
      | 3, q1 => exact q1
      | k + 4, q1 => exact q1
end
/-- a def's body keeps its promise, the hand ahead -/
theorem bodyD_ok {J : Jc Hd} {esc ρ : Env} {σ : Sl} {G H : Hp} {L : Led} {t : TS} {m : MS Hd D} {Q : VK} {X : XK} {s : Hd} (sv : Sv J Tl esc t ρ m Fin.rt) (o : Ok J.Z (J.lay s) ρ G σ L H) (hX : ∀ cls d σ H, X cls d H → J.X cls d σ H) (e : EndP J.Z J.lay G Q X (m s)) : t (ends Q) σ H := body_ok sv o hX e
theorem cells_hand {Z : Wo} {G : Hp} {N : List Str} {p c : Addr} {cells : List Int} {vs : List V} {ds : List D} {n : Nat} (hf : hF c cells G) (r : RpAll Z G vs ds) (h : N.length = ds.length + 1 + n) : Cells Z G (.A p (hF c cells) :: startE ds n) (L2.start N (.ref p :: vs)) [] := by
  unfold startE L2.start
  have e : N.length - (V.ref p :: vs).length = n := by
    rw [List.length_cons, r.length, h]
    omega
  rw [e]
  exact .A (fun G' s => s _ _ hf) (cells_more (cells_none n) r)

/-! ### the hand is made -/
def spHand (K : PySem.W.Frag) : Sp := fun vs H Q _ => ∃ (a : Addr) (ns : List Int), vs = [.ref a] ∧ SqL K H a (ns.map V.int) ∧ ns.length ≤ 63 ∧
  ∀ p c H' tot, c ≠ p → H' p = some (hHO c ⟨0, 0, tot⟩) → H' c = some (.lst ((ns.map fun n => if n < 0 then -n else n).map V.int)) → Q (.ref p) H'
def spLaw (K : PySem.W.Frag) : Sp := fun vs H Q _ => ∃ (a : Addr) (ns : List Int), vs = [.ref a] ∧ SqL K H a (ns.map V.int) ∧ ns.length ≤ 63 ∧ ∀ H', Q (.bl true) H'
/-- the law: the hand first, then what m says of it -/
theorem law_ok {K : PySem.W.Frag} {Z : Wo} {X : WX} {t : TS} {n i : Nat} {H : Hp} {vs : List V} {Q : VK} {E : XK} {N : List Str} {m : List Int → MS Hd D} (h : spLaw K vs H Q E) (hN : N.length = n + 1) (hi : i < n + 1)
    (sv : ∀ p c cells, Sv ⟨Z, fun h => [(p, hHO c h)], X⟩ Tl (List.replicate (n + 1) .U) t ((List.replicate (n + 1) .U).set i (.A p (hF c cells))) (m cells) Fin.rt)
    (hm : ∀ cells tot, cells.length ≤ 63 → ∃ s, m cells ⟨0, 0, tot⟩ = .ok (.bl true) s) :
    tSeq (tAsg (tCallSD (spHand K) [] (WE X) (tCons (tVar 0) tNil)) (gName i)) t (ends Q) (L2.start N vs) H := by
  obtain ⟨a, ns, rfl, hs, hl, q⟩ := h
  have es : L2.start N [.ref a] = some (.ref a) :: List.replicate n none := by
    unfold L2.start
    rw [hN]
    rfl
  rw [es]
  refine ⟨.ref a, rfl, a, ns, rfl, hs, hl, fun p c H' tot ne h1 h2 => ?_⟩
  obtain ⟨s, hm'⟩ := hm (ns.map fun n => if n < 0 then -n else n) tot (by rw [List.length_map]; exact hl)
  show t (ends Q) ((some (.ref a) :: List.replicate n none).set i (some (.ref p))) H'
  have base : Cells Z (upd (fun _ => none) c (.lst ((ns.map fun n => if n < 0 then -n else n).map V.int))) (List.replicate (n + 1) .U) (some (.ref a) :: List.replicate n none) [] := .U (cells_none n)
  obtain ⟨L', sb, c1⟩ := base.setA (a := p) (F := hF c (ns.map fun n => if n < 0 then -n else n)) (fun G' s => s _ _ upd_same) i
  have eL : L' = [] := List.sublist_nil.mp sb
  subst eL
  refine body_ok (J := ⟨Z, fun h => [(p, hHO c h)], X⟩) (s := ⟨0, 0, tot⟩) (G := upd (fun _ => none) c (.lst ((ns.map fun n => if n < 0 then -n else n).map V.int))) (L := []) (X := fun _ _ _ => False) (sv p c _) ⟨c1, ?_, ?_, ?_⟩ (fun _ _ _ _ h => h.elim) ?_
  · intro b x hb
    by_cases e : b = c
    · subst e
      rw [upd_same] at hb
      cases hb
      exact h2
    · rw [upd_ne e] at hb
      cases hb
  · simp
  · intro q hq
    have e : q = (p, hHO c ⟨0, 0, tot⟩) := by simpa using hq
    subst e
    exact ⟨h1, by rw [upd_ne ne.symm]⟩
  · show EndP Z _ _ Q _ (m _ _)
    rw [hm']
    intro v G' H2 _ _ r
    cases r
    exact q H2

/-! ### calls with a keyword: the parameters behind the last written one have their defaults -/
section
variable {K : PySem.W.Frag} {x qual : Str} {params : Arguments} {body : List Stmt} {scope : Scope} {dvs : List V} {f : Addr} {fd : FuncData} {ps : List Str}
theorem kbind1 (F : FunD K x qual params body scope dvs [] f fd) (n : Nat) (ks : List Str) (g : {α : Type} → List α → List α → List α → List α) (hd : dvs ≠ [])
    (hrel : ∀ {vs ds zs : List V} {us its ws : List Value}, Vals vs us → Vals ds its → Vals zs ws → Vals (g vs ds zs) (g us its ws))
    (h : ∀ (q : Addr) (kV doc pm : Value) (an : Option Addr) (cdv ct : Value) (us its ws : List Value), us.length = n → its.length = dvs.length → ws.length = ks.length →
      ∃ k, bindArgs (PySem.W.fnOf x qual params body scope (.ref q) kV doc pm an cdv ct) ⟨us, ks.zip ws⟩ = seqItems? (.ref q) >>= k ∧ k (some its.toArray) = pure (ps.zip (g us its ws))) :
    ∃ its : List Value, KBn K fd ps n ks (fun us ws => g us its ws) (fun vs zs => g vs dvs zs) := by
  obtain ⟨oc, od, dV, kV, doc, pm, an, cdv, ct, osl, rfl, lk, hcd, hD, hK⟩ := F.ex
  rcases hD with ⟨e, _⟩ | ⟨_, q, o, its, m, rfl, l1, o1, r1⟩
  · exact (hd e).elim
  · refine ⟨its, fun s us ws X a b => ?_, fun ra rb => hrel ra r1 rb⟩
    obtain ⟨k, e1, e2⟩ := h q kV doc pm an cdv ct us its ws a r1.length.symm b
    refine BindsTo.of_looks fun M => ?_
    rw [e1]
    exact looks_items X l1 o1 (.of_pure e2)
end
section
variable {S : Type} {J : Jc S} {ρ esc : Env}
/-- f(a, .., k = b): gD tells the data of the parameters -/
theorem ev_callN {n k : Nat} {X : XK} {m : (S : Type) → List D → MS S D} {gV : List V → List V → List V} {gD : List D → List D → List D} {ta tk : TA} {ma mk : MS S (List D)} (h : EvA J ta ρ ma) (hk : EvA J tk ρ mk) (hX : ∀ cls d σ H, J.X cls d σ H → X cls d H)
    (hg : ∀ G vs ds zs es, RpAll J.Z G vs ds → RpAll J.Z G zs es → ds.length = n → es.length = k → RpAll J.Z G (gV vs zs) (gD ds es)) :
    Ev J (tCallN n k (spM J.Z m) gV X ta tk) ρ (bnd ma fun ds => bnd mk fun es => if ds.length = n ∧ es.length = k then m S (gD ds es) else stk) := fun σ G s H L o Q q =>
  h.run o q fun ds xs G1 s1 H1 e1 o1 r q1 => hk.run o1 q1 fun es zs G2 s2 H2 e2 o2 rz q2 => by
    by_cases hl : ds.length = n ∧ es.length = k
    · rw [if_pos hl] at q2
      have r2 := RpAll.mono e2 r
      refine ⟨r2.length.trans hl.1, RpAll.length rz |>.trans hl.2, S, fun s => L ++ J.lay s, G2, s2, gD ds es, o2.2, hg G2 xs ds zs es r2 rz hl.1 hl.2, ?_⟩
      cases e : m S (gD ds es) s2 with
      | stuck =>
        rw [e] at q2
        exact q2
      | ex c fs s3 =>
        rw [e] at q2
        exact fun dx vs G' H' sm w a b rr => hX _ _ _ _ (q2 dx vs G' H' sm ⟨o2.1.mono sm, w⟩ a b rr)
      | ok d s3 =>
        rw [e] at q2
        exact fun v G' H' sm w rr => q2 v G' H' sm ⟨o2.1.mono sm, w⟩ rr
    · rw [if_neg hl] at q2
      exact q2.elim
end
end Dm

set_option Elab.async false
set_option linter.all false
set_option maxRecDepth 100000
set_option maxHeartbeats 2000000
/-! enumerate of a tuple, of a list or a tuple -/
namespace PySem
open AutoSeq1 (wpAny_loadPart')
abbrev titO (l : Addr) : Obj := { cls := .type "tuple_iterator", data := .fields #[.ref l, .int 0 0] }
abbrev enO (i : Addr) : Obj := { cls := .type "enumerate", data := .fields #[.none, .bool false, .ref i, rawInt 0, .none, .none] }
theorem meets_enT (l : Addr) (its : Array Value) (n : Nat) (dc : Option Addr) (sl : Array (Option Value)) :
    Meets (Builtin.«enumerate.__new__» ⟨[.type "enumerate", .ref l], []⟩) (fun _ R s => s.heap.get? l = some { cls := .type "tuple", dict := dc, data := .seq its n, slots := sl } ∧
      R (.ok (.ret (.ref (s.heap.push (titO l)).objs.size))) { s with heap := (s.heap.push (titO l)).push (enO s.heap.objs.size) }) :=
  .of_wp fun prog w A R s hyp => by
    obtain ⟨hp, gs, dr, tk, os⟩ := s
    obtain ⟨hl, fin⟩ := hyp
    have hsub := sub_enumerate
    have isT : Heap.IsTuple (Shared.heap ⟨hp, gs, dr, tk, os⟩) l its := ⟨_, hl, rfl, n, rfl⟩
    wp_walk using wpAny_loadPart' hl
    refine wpAny_stack_any fun st => wpAny_pure ?_
    split
    · rename_i c _ _ _ _ _
      cases (c == Value.type "enumerate") <;>
      · wp_walk using wpAny_loadPart' hl, wpAny_pyIter_tuple isT
        exact ⟨_, rfl, fin⟩
    · wp_walk using wpAny_loadPart' hl, wpAny_pyIter_tuple isT
      exact ⟨_, rfl, fin⟩
section
variable {prog : Program} {w : World} {A : Around} {E : Value → Shared → Prop} {s : Shared}
theorem call_enT {l : Addr} {its : Array Value} {Q : Value → Shared → Prop} (hT : s.heap.IsTuple l its)
    (k : ∀ g, IsEnum g (s.heap.objs.size + 1) s.heap.objs.size 0 .none → g.IsTupleIter s.heap.objs.size l 0 → (∀ b o, s.heap.get? b = some o → g.get? b = some o) → Q (.ref (s.heap.objs.size + 1)) { s with heap := g }) :
    wpAny (model prog w) A (call (.type "enumerate") [.ref l]) Q E s := by
  obtain ⟨⟨c, dc, dt, sl⟩, hl, hc, n, hd⟩ := hT
  cases (show c = .type "tuple" from hc)
  cases (show dt = .seq its n from hd)
  refine callType_new F.called_enumerate (by decide) (F.typeCall_enumerate_1 _) (F.newCall_enumerate_1 _) (fun o => F.args_object_init_2 o _) F.entry_enumerate_new (meets_enT l its n dc sl) ⟨hl, ?_⟩
  have z1 : (s.heap.push (titO l)).objs.size = s.heap.objs.size + 1 := Heap.size_push ..
  show _ ∧ _
  rw [z1]
  have e1 : IsEnum ((s.heap.push (titO l)).push (enO s.heap.objs.size)) (s.heap.objs.size + 1) s.heap.objs.size 0 .none := by
    have q := Heap.get?_push_size (s.heap.push (titO l)) (o := enO s.heap.objs.size) rfl
    rw [z1] at q
    exact q
  exact ⟨⟨_, e1, rfl⟩, k _ e1 ⟨_, Heap.get?_push_of_some _ (Heap.get?_push_size _ rfl), rfl, rfl⟩ fun b o x => Heap.get?_push_of_some _ (Heap.get?_push_of_some _ x)⟩
end
end PySem
namespace Dm
open PySem PySem.Spec PyProof.Rows L2
/-- the tuple at a, each item in a new pair -/
def Iet (K : PySem.W.Frag) (a : Addr) : It where
  go := fun i H => ∃ (xs : List V) (x : V), SqT K H a xs ∧ xs[i]? = some x
  yld := fun i H v H' => ∃ q x, v = .ref q ∧ H q = none ∧ H' = upd H q (.tup [.int (i : Nat), x]) ∧ ∀ xs, SqT K H a xs → xs[i]? = some x
  stop := fun i H => ∃ xs : List V, SqT K H a xs ∧ xs.length = i
theorem turn_et {P : Program} {w : World} {K : PySem.W.Frag} {elts : List Expr} {kk : Nat} {tpos : Pos} (a e it : Addr) :
    Turn P w K (.Tuple elts kk tpos) (Iet K a) [e, it] e (fun i h => (∃ old, IsEnum h e it ((i : Nat) : Int) old) ∧ h.IsTupleIter it a i ∧ e ≠ it ∧ a ≠ it ∧ e ≠ a) where
  mem := by simp
  obj := fun i h st b hb => by
    obtain ⟨⟨old, he⟩, ⟨o, ho, hc, hd⟩, _⟩ := st
    have two : b = e ∨ b = it := by simpa using hb
    rcases two with rfl | rfl
    · exact ⟨_, he, fun v q => nomatch q⟩
    · refine ⟨o, ho, fun v q => ?_⟩
      rw [hd] at q
      cases q
  keep := fun i h h' st k => by
    obtain ⟨⟨old, he⟩, hi, n1, n2⟩ := st
    exact ⟨⟨old, k e (by simp) _ he⟩, hi.at fun o q => k it (by simp) o q, n1, n2⟩
  item := by
    intro X hP hw hK hc i pins s σ H E I hf st hg
    subst hP hw hK
    obtain ⟨⟨old, he⟩, hit, n1, n2, n3⟩ := st
    obtain ⟨xs, x, hq, hx⟩ := hg
    obtain ⟨its, rv, p, hz⟩ := I.tuple hq
    obtain ⟨u, hu, ru⟩ := rv.get hx
    have tp : s.heap.IsTuple a its.toArray := p
    have lt_e : e < s.heap.objs.size := Heap.lt_size he
    have lt_i : it < s.heap.objs.size := by
      obtain ⟨_, q, _⟩ := hit
      exact Heap.lt_size q
    have hlt : i < its.toArray.size := by
      have := (List.getElem?_eq_some_iff.mp hu).1
      simpa using this
    have hA : X.A.in1.handled = none := I.ok.hd hc
    refine wpAny_pyNext_enum_itemD (Draws.tuple hA it a n2 its.toArray) he ⟨hit, tp⟩ hlt n1 (by simp [n1, n3]) fun y g tk hy ho sg hT hsz keep => ?_
    have ey : y = u := by
      have h2 : its.toArray[i]? = some u := by simpa using hu
      exact Option.some.inj (hy.symm.trans h2)
    subst ey
    refine ⟨_, rfl, wpAny_letOwnedTupleGo_enum (s := { s with heap := g, toks := tk + 1 }) ho fun g2 he2 sb => ?_⟩
    have hT2 : g2.get? s.heap.objs.size = some { cls := .type "tuple", data := .seq #[.int i tk, y] } := (sb.2 _ (Nat.ne_of_gt lt_e)).trans hT
    have pair : ObjOk X.prog X.w (upd H s.heap.objs.size (.tup [.int (i : Nat), x])) g2 s.heap.objs.size (.tup [.int (i : Nat), x]) := by
      refine ⟨by show 2 ≤ sizeLine; decide, [.int i tk, y], .cons ⟨_, rfl⟩ (.cons ru .nil), ?_⟩
      exact ⟨_, hT2, rfl, _, rfl⟩
    have I1 : Inv X pins σ (upd H s.heap.objs.size (.tup [.int (i : Nat), x])) { s with heap := g2, toks := tk + 1 } := by
      refine I.turnedNew (ch := [e, it]) (fun b ob hb q => ?_) hf (Nat.le_refl _) pair
      have be : b ≠ e := fun z => hb (by simp [z])
      have bi : b ≠ it := fun z => hb (by simp [z])
      exact (sb.2 b be).trans (keep b ob be bi q)
    refine ⟨.ref s.heap.objs.size, _, I1, rfl, ⟨_, x, rfl, I.hok.fresh (Nat.le_refl _), rfl, fun ys hy => by rw [I.tuple_inj hy hq]; exact hx⟩, ⟨⟨y, ?_⟩, sg.1.at fun o q => (sb.2 it (Ne.symm n1)).trans q, n1, n2, n3⟩, fun b hb => ?_⟩
    · have up : ((i + 1 : Nat) : Int) = (i : Int) + 1 := by omega
      rw [up]
      exact he2
    · have two : b = e ∨ b = it := by simpa using hb
      have lt_b : b < s.heap.objs.size := by
        rcases two with rfl | rfl
        · exact lt_e
        · exact lt_i
      rw [upd_ne (Nat.ne_of_lt lt_b)]
      exact (hf b hb).1
  done := by
    intro X hP hw hK hc i pins s σ H E I hf st hg
    subst hP hw hK
    obtain ⟨⟨old, he⟩, hit, n1, n2, n3⟩ := st
    obtain ⟨xs, hq, hx⟩ := hg
    obtain ⟨its, rv, p, hz⟩ := I.tuple hq
    have tp : s.heap.IsTuple a its.toArray := p
    obtain ⟨f0, f1, f2, f3, f4, f5⟩ := hf it (by simp)
    have sz : its.toArray.size = i := by
      rw [List.size_toArray, ← rv.length, hx]
    have hA : X.A.in1.handled = none := I.ok.hd hc
    refine wpAny_pyNext_enum_endD (Draws.tuple hA it a n2 its.toArray) he ⟨by rw [sz]; exact hit, tp⟩ fun g eb => ⟨rfl, ?_⟩
    exact I.turned (t' := s.toks) (fun b o hb q => eb b o hb q) f0 f1 f3 f4 f5
  self := fun A i s Q E st h => by
    obtain ⟨⟨_, he⟩, _⟩ := st
    exact wpAny_pyIter_enum he h
/-- enumerate(e): a list or a tuple -/
def iEn (K : PySem.W.Frag) (ta : TA) : TI := fun σ H R => ta σ H fun vs H1 => ∃ a, vs = [.ref a] ∧ (((∃ xs, SqL K H1 a xs) ∧ R (Ite K a) H1) ∨ ((∃ xs, SqT K H1 a xs) ∧ R (Iet K a) H1))
theorem pi_en {X : Cx} {e : Expr} {ta : TA} {p pos tpos : Pos} {elts : List Expr} {kk : Nat} (hg : Gl X "enumerate") (hm : X.mg "enumerate" = none) (ha : PA X [e] ta) (hs : starEach [e] X.env = [(false, eval e X.env)] := by rfl) :
    PI X (.Tuple elts kk tpos) (.Call (.Name "enumerate" p) [e] [] pos) (iEn X.K ta) := by
  constructor
  intro pins s σ H R I h
  refine Call_ (ld_blt I hg hm boot_enumerate (PyProof.Rows.callWith_type1 (thn (ha.run pos pins s σ H _ I h) fun us s1 hw => ?_) hs rfl))
  obtain ⟨vs, H1, I1, r1, a, rfl, q⟩ := hw
  cases r1 with
  | cons r rr =>
    cases rr
    cases r
    have fin : ∀ {J : It} {tn : Nat → Heap → Prop} {g : Heap} (T : Turn X.prog X.w X.K (.Tuple elts kk tpos) J [s1.heap.objs.size + 1, s1.heap.objs.size] (s1.heap.objs.size + 1) tn) (st : tn 0 g) (hk : ∀ b o, s1.heap.get? b = some o → g.get? b = some o) (q : R J H1),
        PIE X pins σ (.Tuple elts kk tpos) R (.ref (s1.heap.objs.size + 1)) { s1 with heap := g } := fun T st hk q => by
      refine ⟨_, _, _, _, H1, rfl, I1.kept (t' := s1.toks) hk, T, st, fun b hb => ?_, q⟩
      have two : b = s1.heap.objs.size + 1 ∨ b = s1.heap.objs.size := by simpa using hb
      have hle : s1.heap.objs.size ≤ b := by
        rcases two with z | z
        · rw [z]
          exact Nat.le_succ _
        · rw [z]
          exact Nat.le_refl _
      exact I1.fpOk hle (I1.hok.fresh hle)
    rcases q with ⟨⟨xs, hq⟩, q⟩ | ⟨⟨xs, hq⟩, q⟩
    · obtain ⟨its, rv, p', hz⟩ := I1.list hq
      exact call_enumerate_list p'.isList fun g he hit hsz hk => wpAny_pyIter_enum he (fin (turn_enum a _ _) ⟨⟨.none, he⟩, hit, Nat.succ_ne_self _⟩ hk q)
    · obtain ⟨its, rv, p', hz⟩ := I1.tuple hq
      have tp : s1.heap.IsTuple a its.toArray := p'
      have la : a < s1.heap.objs.size := by
        obtain ⟨o, e1, _⟩ := tp
        exact Heap.lt_size e1
      exact call_enT tp fun g he hit hk => wpAny_pyIter_enum he (fin (turn_et a _ _) ⟨⟨.none, he⟩, hit, Nat.succ_ne_self _, Nat.ne_of_lt la, Nat.ne_of_gt (Nat.lt_succ_of_lt la)⟩ hk q)
section
variable {S : Type} {J : Jc S} {ρ : Env} {σ : Sl} {G H : Hp} {L : Led}
def numb : Nat → List D → List D
  | _, [] => []
  | n, d :: ds => .tup [.int (n : Int), d] :: numb (n + 1) ds
theorem numb_len : ∀ (n : Nat) (ds : List D), (numb n ds).length = ds.length
  | _, [] => rfl
  | n, _ :: ds => congrArg Nat.succ (numb_len (n + 1) ds)
theorem numb_at : ∀ (n : Nat) (ds : List D) (i : Nat) (d : D), ds[i]? = some d → (numb n ds)[i]? = some (.tup [.int ((n + i : Nat) : Int), d])
  | _, [], _, _, h => by simp at h
  | n, _ :: ds, 0, d, h => by
    simp at h
    subst h
    rfl
  | n, _ :: ds, i + 1, d, h => by
    have := numb_at (n + 1) ds i d (by simpa using h)
    rw [show n + (i + 1) = n + 1 + i by omega]
    simpa [numb] using this
theorem wd_en {Z : Wo} {K : PySem.W.Frag} {a : Addr} {xs : List V} {ds : List D} (h : G a = some (.lst xs)) (r : RpAll Z G xs ds) : Walk (Ite K a) (numb 0 ds).length (fun H => Same G H) (YD Z G (numb 0 ds)) := by
  rw [numb_len, ← r.length]
  refine walk_enum.mono (fun H s => sq_l (s _ _ h)) fun i H x H' hi s y => ?_
  obtain ⟨q, u, v, e1, e2, e3, e4, e5⟩ := y
  cases e4
  obtain ⟨d, hd, rd⟩ := r.at e5
  refine ⟨_, numb_at 0 ds i d hd, .inr ⟨q, _, v, _, d, e1, e2, e3, rfl, ?_, rd⟩⟩
  rw [Nat.zero_add]
  exact .int _
theorem wd_et {Z : Wo} {K : PySem.W.Frag} {a : Addr} {xs : List V} {ds : List D} (h : G a = some (.tup xs)) (r : RpAll Z G xs ds) : Walk (Iet K a) (numb 0 ds).length (fun H => Same G H) (YD Z G (numb 0 ds)) := by
  rw [numb_len, ← r.length]
  refine ⟨fun i H hi s => ⟨xs, xs[i], sq_t (s _ _ h), by simp [hi]⟩, fun H s => ⟨xs, sq_t (s _ _ h), rfl⟩, fun i H x H' hi s y => ?_⟩
  obtain ⟨q, v, e1, e2, e3, e5⟩ := y
  obtain ⟨d, hd, rd⟩ := r.at (e5 xs (sq_t (s _ _ h)))
  refine ⟨_, numb_at 0 ds i d hd, .inr ⟨q, _, v, _, d, e1, e2, e3, rfl, ?_, rd⟩⟩
  rw [Nat.zero_add]
  exact .int _
theorem ei_en {K : PySem.W.Frag} {te : TE} {m : MS S D} (h : Ev J te ρ m) : EvI J (iEn K (tCons te tNil)) ρ (bnd m fun d => lft ((items d).map (numb 0))) := fun σ G s H L o R q =>
  h.runI o q fun d x G1 s1 H1 e1 o1 r q1 => PstI.lft q1 fun es e q2 => by
    cases e3 : items d with
    | none => rw [e3] at e; cases e
    | some ds =>
      rw [e3] at e
      cases e
      obtain ⟨p, xs, h1, r2, h2⟩ := Rp.items r e3
      subst h1
      refine ⟨p, rfl, ?_⟩
      rcases h2 with h2 | h2
      · exact .inl ⟨⟨xs, sq_l (o1.same _ _ h2)⟩, q2 _ G1 H1 (Same.refl _) o1 (wd_en h2 r2)⟩
      · exact .inr ⟨⟨xs, sq_t (o1.same _ _ h2)⟩, q2 _ G1 H1 (Same.refl _) o1 (wd_et h2 r2)⟩
end
end Dm

set_option Elab.async false
set_option linter.all false
set_option maxRecDepth 100000
set_option maxHeartbeats 2000000
namespace Dm
open PySem PySem.Spec PyProof.Rows L2
/-! what the generated texts want besides -/
theorem passN {X : Cx} {W : WX} (h : ∀ cls d σ H, W cls d σ H → False) (σ : Sl) : PassesAt (L2.CX X.prog X.w) X σ (WE W σ) := fun pins H s e s' _ q => by
  obtain ⟨_, _, _, _, _, _, _, _, _, _, _, _, z⟩ := q
  exact (h _ _ _ _ z).elim
theorem passF {X : Cx} : Passes (L2.CX X.prog X.w) X (fun _ _ _ => False) := fun pins σ H s e s' _ q => by
  obtain ⟨_, _, _, _, _, _, _, _, _, _, _, _, z⟩ := q
  exact z.elim
theorem passE {X : Cx} {E : XK} (tk : Takes X (fun cls d _ H => E cls d H)) : Passes (L2.CX X.prog X.w) X E := fun pins σ H s e s' => passAt tk σ pins H s e s'
section
variable {S : Type} {J : Jc S} {α β : Type} {ρ esc : Env} {σ : Sl} {G H : Hp} {L : Led}
theorem ev_notT {K : PySem.W.Frag} {te : TE} {m : MS S D} (h : EvX J te ρ m) : Ev J (tNotT K te) ρ (bnd m fun d => lft ((tru d).map fun b => .bl (!b))) := fun σ G s H L o Q q =>
  h.run o q fun d x G1 s1 H1 e1 o1 r q1 => Pst.lft q1 fun z hz q2 => by
    cases e : tru d with
    | none => rw [e] at hz; cases hz
    | some b =>
      rw [e] at hz
      cases hz
      exact ⟨b, tru_ok o1 r e, q2 _ _ _ (Same.refl _) o1 (.bl _)⟩
theorem ev_dnew : Ev J tDNewK ρ (ret (.dct [])) := fun σ G s H L o Q q p hp => by
  obtain ⟨sm, o'⟩ := o.lay (u := .dK []) hp
  exact q _ _ _ sm o' (.dct upd_same)
/-! ### new lists for own: a slice, two lists together, a list again and again -/
def lstOf : D → Option (List D)
  | .lst xs => some xs
  | _ => none
def oSlL (d : D) (lo hi : Option Int) : Option (List D) := (lstOf d).map fun xs => cut xs lo hi
theorem el_sl {K : PySem.W.Frag} {te : TE} {tl th : TO} {m : MS S D} {ml mh : MS S (Option Int)} (h : EvX J te ρ m) (hl : EvO J tl ρ ml) (hh : EvO J th ρ mh) : EvL J (tSl (rSl K) te tl th) ρ (bnd m fun d => bnd ml fun lo => bnd mh fun hi => lft (oSlL d lo hi)) := fun σ G s H L o Q q =>
  h.runL o q fun d x G1 s1 H1 e1 o1 rx q1 => hl.runL o1 q1 fun lo l' G2 s2 H2 e2 o2 rl q2 => hh.runL o2 q2 fun hi h' G3 s3 H3 e3 o3 rh q3 => PstL.lft q3 fun z hz q4 => by
    cases rl
    cases rh
    have rx3 : rX J ρ σ G3 x d := (rX.mono e3 (rX.mono e2 rx))
    cases d with
    | lst ds =>
      cases hz
      obtain ⟨a, xs, h1, h2, r⟩ := rX.lst o3 rx3
      exact .inl (.inl ⟨a, xs, h1, sq_l h2, fun p hp => q4 _ _ _ _ (Same.refl _) (o3.nw hp) (cut_rp r)⟩)
    | _ => cases hz
def oCatL (d e : D) : Option (List D) := match lstOf d, lstOf e with
  | some xs, some ys => if xs.length + ys.length < tooLong then some (xs ++ ys) else none
  | _, _ => none
theorem el_add {K : PySem.W.Frag} {ta tb : TE} {ma mb : MS S D} (ha : EvX J ta ρ ma) (hb : EvX J tb ρ mb) : EvL J (tOp (rAdd K) ta tb) ρ (bnd ma fun d => bnd mb fun e => lft (oCatL d e)) := fun σ G s H L o Q q =>
  ha.runL o q fun d x G1 s1 H1 e1 o1 rx q1 => hb.runL o1 q1 fun e y G2 s2 H2 e2 o2 ry q2 => PstL.lft q2 fun z hz q4 => by
    have rx3 : rX J ρ σ G2 x d := rX.mono e2 rx
    cases d with
    | lst xs =>
      cases e with
      | lst ys =>
        have hz : (if xs.length + ys.length < tooLong then some (xs ++ ys) else none) = some z := hz
        obtain ⟨hl, rfl⟩ := ite_some hz
        obtain ⟨a, vs, rfl, h1, r1⟩ := rX.lst o2 rx3
        obtain ⟨b, us, rfl, h2, r2⟩ := rX.lst o2 ry
        exact .inl (.inr ⟨a, b, vs, us, rfl, rfl, h1, h2, long_ok (by rw [r1.length, r2.length]; exact hl), fun p hp => q4 _ _ _ _ (Same.refl _) (o2.nw hp) (r1.append r2)⟩)
      | _ => cases hz
    | _ => cases hz
def oRepL (d e : D) : Option (List D) := match d, e with
  | .lst xs, .int k => if xs.length * k.toNat < tooLong ∧ k.natAbs < 2305843009213693952 then some (List.replicate k.toNat xs).flatten else none
  | _, _ => none
theorem el_mul {ta tb : TE} {ma mb : MS S D} (ha : EvX J ta ρ ma) (hb : EvX J tb ρ mb) : EvL J (tOp rMul ta tb) ρ (bnd ma fun d => bnd mb fun e => lft (oRepL d e)) := fun σ G s H L o Q q =>
  ha.runL o q fun d x G1 s1 H1 e1 o1 rx q1 => hb.runL o1 q1 fun e y G2 s2 H2 e2 o2 ry q2 => PstL.lft q2 fun z hz q4 => by
    have rx3 : rX J ρ σ G2 x d := rX.mono e2 rx
    cases d with
    | lst xs =>
      cases e with
      | int k =>
        have hz : (if xs.length * k.toNat < tooLong ∧ k.natAbs < 2305843009213693952 then some (List.replicate k.toNat xs).flatten else none) = some z := hz
        obtain ⟨hl, rfl⟩ := ite_some hz
        obtain ⟨a, vs, rfl, h1, r1⟩ := rX.lst o2 rx3
        exact .inr ⟨a, k, vs, rfl, rX.int ry, h1, by have := hl.2; omega, by have := hl.2; omega, long_ok (by rw [r1.length]; exact hl.1), fun p hp => q4 _ _ _ _ (Same.refl _) (o2.nw hp) (r1.rep k.toNat)⟩
      | _ => cases hz
    | _ => cases hz
/-- xs[a], xs[b] = (u, v) -/
def two (ds : List D) : Option (D × D) := match ds with
  | [a, b] => some (a, b)
  | _ => none
theorem set1_some {ds es : List D} {k d : D} (h : set1 ds k d = some es) : ∃ z j, k = .int z ∧ ixN ds.length z = some j ∧ es = ds.set j d := by
  cases k with
  | int z =>
    unfold set1 at h
    dsimp only at h
    cases e : ixN ds.length z with
    | none => rw [e] at h; cases h
    | some j =>
      rw [e] at h
      cases h
      exact ⟨z, j, rfl, e, rfl⟩
  | _ => cases h
theorem sv_swap {K : PySem.W.Frag} {i : Nat} {ds : List D} {ta : TA} {ti tj : TE} {m : MS S (List D)} {n1 n2 : MS S D} (hi : ρ[i]? = some (.O ds)) (h : EvA J ta ρ m) (hk : ∀ es, Ev J ti (ρ.set i (.O es)) n1) (hj : ∀ es, Ev J tj (ρ.set i (.O es)) n2) (w : Wk ρ esc) (w' : ∀ es, Wk (ρ.set i (.O es)) esc) (hs : ρ.set i (.O ds) = ρ := by rfl) :
    Sv J Ta esc (tAsg (tTup ta) (gTup K 2 (gCons (gSub (tVar i) ti rSetL) (gCons (gSub (tVar i) tj rSetL) gNil)))) ρ
      (bnd m fun us => bnd (lft (two us)) fun u => bnd n1 fun k1 => bnd (lft (set1 ds k1 u.1)) fun es => bnd n2 fun k2 => lft (set1 es k2 u.2)) (fun es => .nx (ρ.set i (.O es))) := fun σ G s H L o E _ q =>
  h.runS o w q fun us xs G1 s1 H1 e1 o1 r q1 => by
    match us, r, q1 with
    | [], _, q1 => exact q1.elim
    | [_], _, q1 => exact q1.elim
    | _ :: _ :: _ :: _, _, q1 => exact q1.elim
    | [a, b], r, q1 =>
      have q1 : Pss J esc G1 E (fun es => .nx (ρ.set i (.O es))) ((bnd n1 fun k1 => bnd (lft (set1 ds k1 a)) fun es => bnd n2 fun k2 => lft (set1 es k2 b)) s1) := q1
      cases r with
      | @cons v1 _ _ _ ra r2 =>
        cases r2 with
        | @cons v2 _ _ _ rb r3 =>
          cases r3
          refine ⟨by show 2 ≤ sizeLine; decide, fun p hp => ?_⟩
          obtain ⟨sm, o2⟩ := o1.lay (u := .tup [v1, v2]) hp
          have o2' : Ok J.Z (J.lay s1) (ρ.set i (.O ds)) (upd G1 p (.tup [v1, v2])) σ L (upd H1 p (.tup [v1, v2])) := by rw [hs]; exact o2
          obtain ⟨p1, xs1, a1, a2, a3, a4⟩ := o2.put hi
          refine ⟨p, _, rfl, sq_t upd_same, rfl, _, _, rfl, ?_⟩
          refine ⟨.ref p1, a1, (hk ds).runS o2' (w' _) (Pss.mono sm q1) fun k1 kv G3 s3 H3 e3 o3 rv q3 => ?_⟩
          have o3' : Ok J.Z (J.lay s3) ρ G3 σ L H3 := by rw [hs] at o3; exact o3
          cases f1 : set1 ds k1 a with
          | none => rw [f1] at q3; exact q3.elim
          | some es1 =>
            rw [f1] at q3
            obtain ⟨z1, j1, rfl, x1, rfl⟩ := set1_some f1
            obtain ⟨p3, xs3, b1, b2, b3, b4⟩ := o3'.put hi
            rw [a1] at b1
            cases b1
            cases rX.int (J := J) (ρ := ρ) (σ := σ) (.inl rv)
            obtain ⟨L4, o4⟩ := b4 (xs3.set j1 v1) (ds.set j1 a) (b3.set (ra.mono (sm.trans e3)) j1)
            refine ⟨p1, xs3, z1, j1, rfl, rfl, b2, by rw [b3.length]; exact x1, ?_⟩
            refine ⟨_, _, rfl, .ref p1, a1, (hj _).runS o4 (w' _) (show Pss J esc G3 E _ ((bnd n2 fun k2 => lft (set1 (ds.set j1 a) k2 b)) s3) from q3) fun k2 kv2 G5 s5 H5 e5 o5 rv5 q5 => ?_⟩
            have hi5 : (ρ.set i (.O (ds.set j1 a)))[i]? = some (.O (ds.set j1 a)) := by
              rw [List.getElem?_set_self]
              exact (List.getElem?_eq_some_iff.mp hi).1
            refine Pss.lft q5 fun es f2 q6 => ?_
            obtain ⟨z2, j2, rfl, x2, rfl⟩ := set1_some f2
            obtain ⟨p5, xs5, c1, c2, c3, c4⟩ := o5.put hi5
            rw [a1] at c1
            cases c1
            cases rX.int (J := J) (ρ := ρ) (σ := σ) (.inl rv5)
            obtain ⟨L6, o6⟩ := c4 (xs5.set j2 v2) ((ds.set j1 a).set j2 b) (c3.set (rb.mono ((sm.trans e3).trans e5)) j2)
            refine ⟨p1, xs5, z2, j2, rfl, rfl, c2, by rw [c3.length]; exact x2, rfl, ?_⟩
            refine q6 σ G5 _ L6 (Same.refl _) ?_
            rw [List.set_set] at o6
            exact o6
/-- Fr inside a loop's turn -/
theorem sv_seqFr {γ : Type} {T : Ends → Prop} {t u : TS} {m : MS S (Fr α)} {k : α → MS S (Fl β γ)} {e : α → Env} {e' : β → Env} {eb : γ → Env} (h1 : Sv J Ta esc t ρ m (Fr.fin e)) (h2 : ∀ a, Sv J T esc u (e a) (k a) (Fl.fin e' eb)) :
    Sv J T esc (tSeq t u) ρ (bnd m fun r => match r with | .nx a => k a | .rt d => ret (.rt d)) (Fl.fin e' eb) := fun σ G s H L o E hT q =>
  h1 σ G s H L o { E with nx := u E } trivial (Pss.bind q fun a s' q1 => by
    cases a with
    | nx a => exact fun σ2 G2 H2 L2 e2 o2 => h2 a σ2 G2 s' H2 L2 o2 E hT (Pss.mono e2 q1)
    | rt d => exact q1)
/-- an if that returns, in a suite that may return -/
theorem sv_ifRr {γ : Type} {T : Ends → Prop} {tt : TT} {tu tw tz : TS} {mt : MS S Bool} {m1 : MS S D} {m2 : MS S (Fr α)} {e : α → Env} (h : EvT J tt ρ mt) (w : Wk ρ esc) (h1 : Sv J Ta esc tu ρ m1 Fin.rt) (h2 : Sv J T esc (tSeq tw tz) ρ m2 (Fr.fin e)) :
    Sv J T esc (tSeq (tIfS tt tu tw) tz) ρ (bnd mt fun b => if b = true then bnd m1 (fun d => ret (Fr.rt d)) else m2) (Fr.fin e) := fun σ G s H L o E ht q =>
  h.runS o w q fun b c G1 s1 H1 e1 o1 hc q1 => by
    cases hc
    cases b with
    | true => exact h1 σ G1 s1 H1 L o1 { E with nx := tz E } trivial (Pss.bind (k := fun d => ret (Fr.rt d)) (m := m1) q1 fun a s' q2 => q2)
    | false => exact h2 σ G1 s1 H1 L o1 E ht q1
theorem sv_seqRr {T : Ends → Prop} {t u : TS} {m : MS S (Fr α)} {k : α → MS S (Fr β)} {e : α → Env} {e' : β → Env} (h1 : Sv J Ta esc t ρ m (Fr.fin e)) (h2 : ∀ a, Sv J T esc u (e a) (k a) (Fr.fin e')) :
    Sv J T esc (tSeq t u) ρ (bnd m fun r => match r with | .nx a => k a | .rt d => ret (.rt d)) (Fr.fin e') := fun σ G s H L o E hT q =>
  h1 σ G s H L o { E with nx := u E } trivial (Pss.bind q fun a s' q1 => by
    cases a with
    | nx a => exact fun σ2 G2 H2 L2 e2 o2 => h2 a σ2 G2 s' H2 L2 o2 E hT (Pss.mono e2 q1)
    | rt d => exact q1)
theorem ev_neg {te : TE} {m : MS S D} (h : Ev J te ρ m) : Ev J (tUn (rU fun i => .int (-i)) te) ρ (bnd m fun d => lft (oNeg d)) := fun σ G s H L o Q q =>
  h.run o q fun d x G1 s1 H1 e1 o1 r q1 => Pst.lft q1 fun z hz q2 => by
    cases d with
    | int i =>
      cases hz
      exact ⟨i, rX.int (J := J) (ρ := ρ) (σ := σ) (.inl r), q2 _ _ _ (Same.refl _) o1 (.int _)⟩
    | _ => cases hz
theorem wk_all : ∀ (ρ : Env), Wk ρ (List.replicate ρ.length .U)
  | [] => .nil
  | _ :: e => .drop (wk_all e)
theorem wkU {ρ : Env} {n : Nat} (h : ρ.length = n := by rfl) : Wk ρ (List.replicate n .U) := h ▸ wk_all ρ
/-! ### the message of an error -/
def fmtV : V → Prop
  | .int i => 0 ≤ i ∧ i < 10 ^ 18
  | .str x => x.length < 1000
  | _ => False
/-- b, but no kernel looks into it -/
theorem sld_ex (b : Bool) : ∃ c : Bool, c = b := ⟨b, rfl⟩
noncomputable def sld (b : Bool) : Bool := (sld_ex b).choose
theorem sld_eq (b : Bool) : sld b = b := (sld_ex b).choose_spec
noncomputable def fmtD : D → Bool
  | .int i => sld (decide (0 ≤ i ∧ i < 10 ^ 18))
  | .str x => decide (x.length < 1000)
  | _ => false
theorem fmt_of {Z : Wo} {v : V} {d : D} (r : Rp Z G v d) (h : fmtD d = true) : fmtV v := by
  cases r with
  | int i =>
    have h : sld (decide (0 ≤ i ∧ i < 10 ^ 18)) = true := h
    rw [sld_eq] at h
    exact (of_decide_eq_true h : 0 ≤ i ∧ i < 10 ^ 18)
  | str x =>
    have h : decide (x.length < 1000) = true := h
    exact (of_decide_eq_true h : x.length < 1000)
  | _ => exact Bool.noConfusion h
def Tx1 (σ : Sl) (te : TE) : Prop := ∀ (H : Hp) (R : VK), (∀ y : Str, y.length ≤ 1000 → R (.str y) H) → te σ H R
inductive JsOk (σ : Sl) : List TE → Prop
  | nil : JsOk σ []
  | cons {te : TE} {ts : List TE} : Tx1 σ te → JsOk σ ts → JsOk σ (te :: ts)
theorem tx_str {x : Str} (h : x.length ≤ 1000) : Tx1 σ (tC (.str x)) := fun H R k => k x h
theorem tx_fmt {n : Nat} {v : V} (h : σ[n]? = some (some v)) (hv : fmtV v) : Tx1 σ (tFmt (tVar n)) := fun H R k => by
  cases v with
  | int i =>
    have hv : 0 ≤ i ∧ i < 10 ^ 18 := hv
    refine ⟨_, h, .inr ⟨i, rfl, ?_, k _ (Nat.le_trans (PyProof.Rows.toString_length_le hv.1 (k := 18) (by decide) hv.2) (by decide))⟩⟩
    have : i.natAbs < 2 ^ 60 := by
      have := hv.2
      omega
    rcases Nat.eq_zero_or_pos i.natAbs with h0 | h0
    · rw [h0]
      decide
    · exact Nat.lt_trans ((Nat.log2_lt (by omega)).2 this) (by decide)
  | str x => exact ⟨_, h, .inl ⟨x, rfl, by rw [sizeLine_eq]; exact Nat.le_trans (Nat.le_of_lt hv) (by decide), k _ (Nat.le_of_lt hv)⟩⟩
  | _ => exact hv.elim
theorem js_ok : ∀ {ts : List TE} {acc : Str}, JsOk σ ts → acc.length + 1000 * ts.length ≤ 1000000 → ∀ {H : Hp} {k : Str → Hp → Prop}, (∀ out, k out H) → tJs ts acc σ H k
  | [], acc, _, _, H, k, h => h _
  | te :: ts, acc, .cons t r, l, H, k, h => t H _ fun y hy => by
    have e : (acc ++ y).length = acc.length + y.length := PySem.Str.length_append _ _
    rw [List.length_cons] at l
    exact ⟨y, rfl, by rw [e, sizeLine_eq]; omega, js_ok r (by rw [e]; omega) h⟩
/-! ### what follows a part that may jump, by name -/
def frD (k : α → MS S D) : Fr α → MS S D
  | .nx a => k a
  | .rt d => ret d
def frR (k : α → MS S (Fr β)) : Fr α → MS S (Fr β)
  | .nx a => k a
  | .rt d => ret (.rt d)
def frF {γ : Type} (k : α → MS S (Fl β γ)) : Fr α → MS S (Fl β γ)
  | .nx a => k a
  | .rt d => ret (.rt d)
def flF {γ : Type} (k : α → MS S (Fl β γ)) : Fl α γ → MS S (Fl β γ)
  | .nx a => k a
  | .rt d => ret (.rt d)
  | .bk b => ret (.bk b)
  | .ct b => ret (.ct b)
section
variable {T : Ends → Prop} {t u : TS} {γ : Type} {e : α → Env} {e' : β → Env} {eb : γ → Env}
theorem sv_frD {m : MS S (Fr α)} {k : α → MS S D} (h1 : Sv J Ta esc t ρ m (Fr.fin e)) (h2 : ∀ a, Sv J T esc u (e a) (k a) Fin.rt) : Sv J T esc (tSeq t u) ρ (bnd m (frD k)) Fin.rt := fun σ G s H L o E hT q =>
  h1 σ G s H L o { E with nx := u E } trivial (Pss.bind q fun a s' q1 => by
    cases a with
    | nx a => exact fun σ2 G2 H2 L2 e2 o2 => h2 a σ2 G2 s' H2 L2 o2 E hT (Pss.mono e2 q1)
    | rt d => exact q1)
theorem sv_frR {m : MS S (Fr α)} {k : α → MS S (Fr β)} (h1 : Sv J Ta esc t ρ m (Fr.fin e)) (h2 : ∀ a, Sv J T esc u (e a) (k a) (Fr.fin e')) : Sv J T esc (tSeq t u) ρ (bnd m (frR k)) (Fr.fin e') := fun σ G s H L o E hT q =>
  h1 σ G s H L o { E with nx := u E } trivial (Pss.bind q fun a s' q1 => by
    cases a with
    | nx a => exact fun σ2 G2 H2 L2 e2 o2 => h2 a σ2 G2 s' H2 L2 o2 E hT (Pss.mono e2 q1)
    | rt d => exact q1)
theorem sv_frF {m : MS S (Fr α)} {k : α → MS S (Fl β γ)} (h1 : Sv J Ta esc t ρ m (Fr.fin e)) (h2 : ∀ a, Sv J T esc u (e a) (k a) (Fl.fin e' eb)) : Sv J T esc (tSeq t u) ρ (bnd m (frF k)) (Fl.fin e' eb) := fun σ G s H L o E hT q =>
  h1 σ G s H L o { E with nx := u E } trivial (Pss.bind q fun a s' q1 => by
    cases a with
    | nx a => exact fun σ2 G2 H2 L2 e2 o2 => h2 a σ2 G2 s' H2 L2 o2 E hT (Pss.mono e2 q1)
    | rt d => exact q1)
theorem sv_flF {m : MS S (Fl α γ)} {k : α → MS S (Fl β γ)} (h1 : Sv J Ta esc t ρ m (Fl.fin e eb)) (h2 : ∀ a, Sv J T esc u (e a) (k a) (Fl.fin e' eb)) : Sv J T esc (tSeq t u) ρ (bnd m (flF k)) (Fl.fin e' eb) := fun σ G s H L o E hT q =>
  h1 σ G s H L o { E with nx := u E } trivial (Pss.bind q fun a s' q1 => by
    cases a with
    | nx a => exact fun σ2 G2 H2 L2 e2 o2 => h2 a σ2 G2 s' H2 L2 o2 E hT (Pss.mono e2 q1)
    | rt d => exact q1
    | bk b => exact q1
    | ct b => exact q1)
end
end
end Dm

set_option Elab.async false
set_option linter.all false
set_option maxRecDepth 100000
set_option maxHeartbeats 2000000
namespace Dm
open PySem PySem.Spec PyProof.Rows L2
/-! the rules whose readings name the kit, with the kit said -/
section
variable {X : Cx} {K : PySem.W.Frag} (h : X.K = K)
include h
theorem ix_seqK : IxR X (rIx K) := h ▸ ix_seq
theorem op_eqK (hu : X.A.units + 64 < cLine) : OpR X (compareOp .Eq) (rEqX K) := OpR.either (h ▸ op_eqD hu) op_eq
theorem op_neK (hu : X.A.units + 64 < cLine) : OpR X (compareOp .NotEq) (rNeX K) := OpR.either (h ▸ op_neD hu) op_ne
theorem op_inK : OpR X (compareOp .In) (rIn K false) := h ▸ op_in_seq
theorem op_ninK : OpR X (compareOp .NotIn) (rIn K true) := h ▸ op_notIn_seq
theorem op_addK : OpR X (binaryOp .Add) (rAdd K) := h ▸ op_addG
theorem sl_anyK : SlR X (rSl K) := h ▸ sl_any
theorem pi_sqK {tg l : Expr} {tl : TE} (hl : PE X l tl) : PI X tg l (iSq K tl) := h ▸ pi_sq hl
theorem pi_enK {e : Expr} {ta : TA} {p pos tpos : Pos} {elts : List Expr} {kk : Nat} (hg : Gl X "enumerate") (hm : X.mg "enumerate" = none) (ha : PA X [e] ta) (hs : starEach [e] X.env = [(false, eval e X.env)] := by rfl) :
    PI X (.Tuple elts kk tpos) (.Call (.Name "enumerate" p) [e] [] pos) (iEn K ta) := h ▸ pi_en hg hm ha hs
theorem call_lnK : CallR X (.builtin "len") (rLn K) := h ▸ call_ln
theorem call_isiK : CallR X (.builtin "isinstance") (rIsi K) := h ▸ call_isi
theorem call_isiTK : CallR X (.builtin "isinstance") (rIsiT K) := h ▸ call_isiT
theorem call_tupK : CallR X (.type "tuple") (rTp K) := h ▸ call_tuple_of
theorem call_lstK : CallR X (.type "list") (rLs K) := h ▸ call_list_of
theorem pe_notTK {a : Expr} {ta : TE} {pos : Pos} (ha : PE X a ta) : PE X (.UnaryOp .Not a pos) (tNotT K ta) := h ▸ pe_notT ha
theorem pt_truK {a : Expr} {ta : TE} (ha : PE X a ta) (he : ∀ whole, isTrue a X.env whole = (do let v ← whole; standAt a.pos; holding [v] (truthy v))) : PT X a (fun σ H Q => ta σ H fun x H' => ∃ k, TruV K x H' k ∧ Q k H') := h ▸ pt_truth ha he
theorem pg_tupK {pos : Pos} {es : List Expr} {k : Nat} {t : TGs} {n : Nat} (hc : X.calm = true) (ht : PGs X es t) (hn : (assignEach es X.env).length = n := by rfl) (hf : List.findIdx? (fun x => x.fst) (assignEach es X.env) = none := by rfl) : PG X (.Tuple es k pos) (gTup K n t) := h ▸ pg_tup hc ht hn hf
end
theorem sv_J {S : Type} {J J2 : Jc S} {β : Type} {T : Ends → Prop} {esc : Dm.Env} {t : TS} {ρ : Dm.Env} {m : MS S β} {fin : β → Dm.Fin} (h : J2 = J) (s : Sv J2 T esc t ρ m fin) : Sv J T esc t ρ m fin := h ▸ s
theorem wk_refl : ∀ (ρ : Dm.Env), Wk ρ ρ
  | [] => .nil
  | _ :: e => .keep (wk_refl e)
theorem sv_rho {S : Type} {J : Jc S} {β : Type} {T : Ends → Prop} {esc ρ ρ2 : Dm.Env} {t : TS} {m : MS S β} {fin : β → Dm.Fin} (h : ρ = ρ2) (s : Sv J T esc t ρ m fin) : Sv J T esc t ρ2 m fin := h ▸ s
/-! ### try, by name -/
def tTry (K : PySem.W.Frag) (tb : WX → TS) (Wo : WX) (l : List Cls3) : TS := fun E σ H => tb (wHs K Wo E l) E σ H
theorem ps_tryK {X : Cx} {K : PySem.W.Frag} {body : List Stmt} {k0 : ExceptHandler} {ks : List ExceptHandler} {l : List Cls3} {pos : Pos} {tb : WX → TS} {Wo : WX} (h : X.K = K) (hst : X.stack = X.env :: X.outer) (hfr : X.env.frame = some X.env.locals) (hN : X.N.Nodup) (tk : Takes X Wo)
    (hb : ∀ (W : WX) (pn : List (Addr × Obj)) (xe : Value → Shared → Prop), Takes (X.tr pn xe) W → PassesOwn (model X.prog X.w) X.A X.env xe → PSs (X.tr pn xe) body (tb W)) (hh : HdsA X (k0 :: ks) l) :
    PS X (.Try body (k0 :: ks) [] [] pos) (tTry K tb Wo l) := h ▸ ps_tryA hst hfr hN tk hb hh
theorem sv_tryK {S : Type} {J : Jc S} {T : Ends → Prop} {esc ρ : Dm.Env} {K : PySem.W.Frag} {n : Nat} {tb : WX → TS} {Wo : WX} {l : List Cls3} {hs : List (Nat × (List D → MS S D))} {m : MS S D} {escB : Dm.Env} (hT : ∀ E i, T E → T (gone E i)) (hx : ∀ c c', c < n → c' < n → PySem.W.exmOne K (.ref (J.Z.cl c)) (.ref (J.Z.cl c')) = some (decide (c = c')))
    (hb : ∀ X, Sv (J.to X) T escB (tb X) ρ m Dm.Fin.rt) (hh : HsS J T esc escB Dm.Fin.rt l hs) (hn : ∀ p ∈ hs, p.1 < n) (we : Wk escB esc) (hW : Wo = J.X := by rfl) : Sv J T esc (tTry K tb Wo l) ρ (tryM n m hs) Dm.Fin.rt := by
  subst hW
  exact sv_try hT hx hn we hb hh
end Dm

set_option Elab.async false
set_option linter.all false
set_option maxRecDepth 100000
set_option maxHeartbeats 2000000
namespace Dm
open PySem PySem.Spec PyProof.Rows L2
/-! ### the hand is made -/
def absZ (n : Int) : Int := if n < 0 then -n else n
theorem ints_of {Z : Wo} {G : Hp} : ∀ {vs : List V} (ns : List Int), RpAll Z G vs (ns.map D.int) → vs = ns.map V.int
  | _, [], .nil => rfl
  | _, n :: ns, .cons h r => by
    cases h
    rw [List.map_cons, ints_of ns r]
theorem ints_rp {Z : Wo} {G : Hp} : ∀ ns : List Int, RpAll Z G (ns.map V.int) (ns.map D.int)
  | [] => .nil
  | n :: ns => .cons (.int n) (ints_rp ns)
def sF (K : PySem.W.Frag) (a : Addr) (ns : List Int) (G : Hp) : Prop := SqL K G a (ns.map V.int)
section
variable {S : Type} {J : Jc S} {ρ : Dm.Env} {K : PySem.W.Frag} {a : Addr} {ns : List Int} {i : Nat}
theorem ev_lenA (hi : ρ[i]? = some (.A a (sF K a ns))) : Ev J (tCB (rLn K) (tCons (tVar i) tNil)) ρ (ret (.int ns.length)) := EvG.pure fun σ G s H L o Q q => by
  obtain ⟨h1, h2⟩ := Cells.hand o.1 hi
  refine ⟨_, h1, .inl ⟨_, _, rfl, .inl ⟨_, Same.seq o.same h2, rfl⟩, ?_⟩⟩
  rw [List.length_map]
  exact q _ G H (Same.refl _) o (.int _)
theorem ei_sqA (hi : ρ[i]? = some (.A a (sF K a ns))) : EvI J (iSq K (tVar i)) ρ (ret (ns.map D.int)) := fun σ G s H L o R q => by
  obtain ⟨h1, h2⟩ := Cells.hand o.1 hi
  refine ⟨_, h1, a, rfl, .inl ⟨⟨_, Same.seq o.same h2⟩, ?_⟩⟩
  refine q _ G H (Same.refl _) o ?_
  have l : (ns.map D.int).length = (ns.map V.int).length := by rw [List.length_map, List.length_map]
  rw [l]
  refine walk_list.mono (fun H s => Same.seq s h2) fun i H x H' hi s y => ?_
  obtain ⟨d, hd, rd⟩ := (ints_rp (Z := J.Z) (G := G) ns).at y.2
  exact ⟨d, hd, .inl ⟨y.1, rd⟩⟩
end
/-- what the loop does -/
def handBody (t : D) (st : D × List D) : MS Unit (D × List D) :=
  bnd (bnd (bnd (bnd (bnd (ret st.1) fun d => bnd (ret (.int 1021)) fun e => lft (oMul d e)) fun d => bnd (bnd (ret t) fun d => lft (oIntOf d)) fun e => lft (oAdd d e)) fun d => lft (oIntOf d)) fun d => bnd (ret (.int 2147483587)) fun e => lft (oMod d e)) fun v =>
    bnd (bnd (bnd (bnd (ret t) fun d => lft (oIntOf d)) fun d => lft (oAbs d)) fun d => lft (app1 st.2 d)) fun es => bnd (ret ()) fun _ => ret (v, es)
theorem log2_small {n : Nat} (h : n < 2 ^ 40) : n.log2 < 41 := by
  rcases Nat.eq_zero_or_pos n with h0 | h0
  · rw [h0]
    decide
  · exact Nat.lt_trans ((Nat.log2_lt (by omega)).2 h) (by decide)
theorem handBody_ok {n tot : Int} {ds : List D} (h0 : 0 ≤ tot) (h1 : tot < 2 ^ 40) (hl : ds.length < tooLong) : ∃ tot', 0 ≤ tot' ∧ tot' < 2 ^ 40 ∧ handBody (.int n) (.int tot, ds) () = .ok (.int tot', ds ++ [.int (absZ n)]) () := by
  refine ⟨(tot * 1021 + n).fmod 2147483587, Int.fmod_nonneg_of_pos _ (by decide), Int.lt_trans (Int.fmod_lt_of_pos _ (by decide)) (by decide), ?_⟩
  have hm : oMul (.int tot) (.int 1021) = some (.int (tot * 1021)) := by
    have q : tot.natAbs < 2 ^ 40 := by omega
    have q1 := log2_small q
    have q2 : (1021 : Int).natAbs.log2 < 11 := by decide
    show (if tot.natAbs.log2 + (1021 : Int).natAbs.log2 < 1000000 then some (D.int (tot * 1021)) else none) = _
    exact if_pos (by omega)
  have ha : app1 ds (.int (absZ n)) = some (ds ++ [.int (absZ n)]) := if_pos hl
  have hb : handBody (.int n) (.int tot, ds) = bnd (lft (app1 ds (.int (absZ n)))) fun es => ret (.int ((tot * 1021 + n).fmod 2147483587), es) := by
    unfold handBody
    simp only [bnd_ret, bnd_bnd, lft_some, hm]
    rfl
  rw [hb, ha]
  rfl
theorem handLoop_ok : ∀ (ns : List Int) {tot : Int} {ds : List D}, 0 ≤ tot → tot < 2 ^ 40 → ds.length + ns.length < tooLong → ∃ tot', forN un1 handBody (ns.map D.int) (.int tot, ds) () = .ok (.int tot', ds ++ (ns.map absZ).map D.int) ()
  | [], tot, ds, _, _, _ => ⟨tot, by rw [List.map_nil, List.map_nil, List.map_nil, List.append_nil]; rfl⟩
  | n :: ns, tot, ds, h0, h1, hl => by
    rw [List.length_cons] at hl
    obtain ⟨t1, a0, a1, e⟩ := handBody_ok (n := n) (ds := ds) h0 h1 (by omega)
    obtain ⟨t2, e2⟩ := handLoop_ok ns (tot := t1) (ds := ds ++ [.int (absZ n)]) a0 a1 (by rw [List.length_append, List.length_singleton]; omega)
    refine ⟨t2, ?_⟩
    show ((handBody (.int n) (.int tot, ds) ()).go fun b => forN un1 handBody (ns.map D.int) b) = _
    rw [e]
    show forN un1 handBody (ns.map D.int) (.int t1, ds ++ [.int (absZ n)]) () = _
    rw [e2, List.append_assoc]
    rfl
abbrev rInt1 : List V → Hp → VK → Prop := fun xs H Q => (∃ i, xs = [.int i] ∧ Q (.int i) H) ∨ ∃ k, xs = [.bl k] ∧ Q (.int (if k then 1 else 0)) H
abbrev rAbs1 : List V → Hp → VK → Prop := fun xs H Q => ∃ i, xs = [.int i] ∧ Q (.int (if i < 0 then -i else i)) H
abbrev rModN : R2 := rI (fun _ j => j ≠ 0) fun i j => .int (i.fmod j)
def tHandBody (K : PySem.W.Frag) : TS := tSeq (tAsg (tOp rModN (tCB rInt1 (tCons (tOp (rAdd K) (tOp rMul (tVar 1) (tC (.int 1021))) (tCB rInt1 (tCons (tVar 3) tNil))) tNil)) (tC (.int 2147483587))) (gName 1))
  (tSeq (tDrop (tBM K "list" rAppend (tVar 2) (tCons (tCB rAbs1 (tCons (tCB rInt1 (tCons (tVar 3) tNil)) tNil)) tNil))) tNext)
def tHand (K : PySem.W.Frag) (n : Int) : TS := tSeq (tAsg (tOp (rAdd K) (tCB (rLn K) (tCons (tVar 0) tNil)) (tC (.int n))) (gName 1)) (tSeq (tAsg (tLst tNil) (gName 2)) (tSeq (tFor (iSq K (tVar 0)) (gName 3) (tHandBody K))
  (tRet (tLst (tCons (tVar 2) (tCons (tC (.int 0)) (tCons (tC (.int 0)) (tCons (tVar 1) tNil))))))))
theorem hand_ok {K : PySem.W.Frag} {n : Int} {N : List Str} {Q : VK} {E : XK} {H : Hp} {vs : List V} (h : spHand K vs H Q E) (hn : 0 ≤ n ∧ n < 1000000) (hN : N.length = 4) : tHand K n (ends Q) (L2.start N vs) H := by
  obtain ⟨a, ns, rfl, hs, hl, k⟩ := h
  let Z : Wo := ⟨K, fun _ => 0, fun _ => []⟩
  let J : Jc Unit := ⟨Z, fun _ : Unit => [], fun _ _ _ _ => False⟩
  let c0 : Cell := .A a (sF K a ns)
  have s1 : Sv J Ta (List.replicate 4 .U) (tAsg (tOp (rAdd K) (tCB (rLn K) (tCons (tVar 0) tNil)) (tC (.int n))) (gName 1)) [c0, .U, .U, .U] (bnd (ret (.int ns.length)) fun d => bnd (ret (.int n)) fun e => lft (oAdd d e)) (fun x => .nx [c0, .P x, .U, .U]) :=
    sv_asg (ev_op o2_add (Ev.x (ev_lenA (i := 0) rfl)) (Ev.x ev_int)) wkU
  have s2 : ∀ x, Sv J Ta (List.replicate 4 .U) (tAsg (tLst tNil) (gName 2)) [c0, .P x, .U, .U] (bnd (ret []) fun ds => lft (mkL ds)) (fun ds => .nx [c0, .P x, .O ds, .U]) := fun x => sv_asgL (el_lst ea_nil) wkU (hi := Nat.le_of_ble_eq_true rfl)
  have s3 : ∀ x ds, Sv J Ta (List.replicate 4 .U) (tFor (iSq K (tVar 0)) (gName 3) (tHandBody K)) [c0, .P x, .O ds, .U] (bnd (ret (ns.map D.int)) fun ds' => forN un1 handBody ds' (x, ds)) (fun st => .nx [c0, .P st.1, .O st.2, .U]) := fun x ds =>
    sv_forN (e := fun (st : D × List D) => ([c0, .P st.1, .O st.2, .U] : Dm.Env)) (x, ds) (ei_sqA rfl) wkU (tg_name 3) fun t st =>
      sv_seq (e := fun (v : D) => ([c0, .P v, .O st.2, .P t] : Dm.Env)) (sv_asg (ev_op o2_mod (Ev.x (ev_b1 o1_int (Ev.x (ev_op o2_add (Ev.x (ev_op o2_mul (Ev.x (ev_var (i := 1) rfl)) (Ev.x ev_int))) (Ev.x (ev_b1 o1_int (Ev.x (ev_var (i := 3) rfl)))))))) (Ev.x ev_int)) wkU) fun v =>
      sv_seq (e := fun (es : List D) => ([c0, .P v, .O es, .P t] : Dm.Env)) (sv_app (i := 2) rfl (ev_b1 o1_abs (Ev.x (ev_b1 o1_int (Ev.x (ev_var (i := 3) rfl))))) wkU) fun es =>
      sv_to (g := fun _ => (v, es)) sv_next fun _ => Wk.keep (Wk.keep (Wk.keep (Wk.drop Wk.nil)))
  have start : Ok Z [] [c0, .U, .U, .U] H [some (.ref a), none, none, none] [] H := ⟨.A (fun G' s => Same.seq s hs) (.U (.U (.U .nil))), fun _ _ e => e, List.nodup_nil, fun p hp => nomatch hp⟩
  have es : L2.start N [.ref a] = [some (.ref a), none, none, none] := by
    unfold L2.start
    rw [hN]
    rfl
  rw [es]
  have lt : (63 : Int) < 2 ^ 39 := by decide
  obtain ⟨tot, e3⟩ := handLoop_ok ns (tot := (ns.length : Int) + n) (ds := []) (by omega) (by omega) (by rw [List.length_nil]; unfold tooLong; omega)
  refine s1 _ H () H [] start _ trivial ?_
  show ∀ σ G' H' L, _ → _ → _
  intro σ1 G1 H1 L1 sm1 o1
  refine s2 _ _ G1 () H1 L1 o1 _ trivial ?_
  show ∀ σ G' H' L, _ → _ → _
  intro σ2 G2 H2 L2 sm2 o2
  refine s3 _ _ _ G2 () H2 L2 o2 _ trivial ?_
  show Pss J _ G2 _ _ (forN un1 handBody (ns.map D.int) (.int ((ns.length : Int) + n), []) ())
  rw [e3]
  intro σ3 G3 H3 L3 sm3 o3
  obtain ⟨c3, w3⟩ := o3
  have c3 : Cells Z G3 [Cell.A a (sF K a ns), .P (.int tot), .O ([] ++ (ns.map absZ).map D.int), .U] σ3 L3 := c3
  cases c3 with
  | A f c =>
    cases c with
    | P r1 c =>
      cases r1
      cases c with
      | @O _ _ _ p xs _ r2 c =>
        cases c with
        | U c =>
          cases c
          have hx := ints_of (ns.map absZ) (vs := xs) (by simpa using r2)
          have hp : H3 p = some (.lst xs) := (w3.own (p, .lst xs) (by simp)).1
          refine ⟨_, rfl, _, rfl, (by show 4 ≤ sizeLine; decide), fun l hl' => ?_⟩
          have ne : p ≠ l := ne_of_none hp hl'
          refine k l p _ tot ne upd_same ?_
          rw [upd_ne ne, hp, hx]
          rfl
end Dm

set_option Elab.async false
set_option linter.all false
set_option maxRecDepth 100000
set_option maxHeartbeats 2000000
namespace Dm
open PySem PySem.Spec PyProof.Rows L2
/-! ### the written part: defs with defaults -/
section
variable {K : PySem.W.Frag} {x qual : Str} {params : Arguments} {body : List Stmt} {scope : Scope} {dvs : List V} {f : Addr} {fd : FuncData} {ps : List Str}
theorem bindD (F : FunD K x qual params body scope dvs [] f fd) (n j : Nat) (hd : dvs ≠ []) (hn : n + (dvs.length - j) = ps.length)
    (h : ∀ (q : Addr) (kV doc pm : Value) (an : Option Addr) (cdv ct : Value) (us its : List Value), us.length = n → its.length = dvs.length →
      ∃ k, bindArgs (PySem.W.fnOf x qual params body scope (.ref q) kV doc pm an cdv ct) ⟨us, []⟩ = seqItems? (.ref q) >>= k ∧ k (some its.toArray) = pure (ps.zip (us ++ its.drop j))) :
    ∃ ds : List Value, Vals (dvs.drop j) ds ∧ Binds K fd ps ds := by
  obtain ⟨oc, od, dV, kV, doc, pm, an, cdv, ct, osl, rfl, lk, hcd, hD, hK⟩ := F.ex
  rcases hD with ⟨e, _⟩ | ⟨_, q, o, its, m, rfl, l1, o1, r1⟩
  · exact (hd e).elim
  · have hl : its.length = dvs.length := r1.length.symm
    refine ⟨its.drop j, ?_, fun s us X hu => ?_⟩
    · clear h hn lk F
      have go : ∀ (j : Nat) {a : List V} {b : List Value}, Vals a b → Vals (a.drop j) (b.drop j) := by
        intro j
        induction j with
        | zero => intro a b h; exact h
        | succ j ih =>
          intro a b h
          cases h with
          | nil => exact .nil
          | cons h1 h2 => exact ih h2
      exact go j r1
    · have hun : us.length = n := by
        rw [List.length_append, List.length_drop, hl] at hu
        omega
      obtain ⟨k, e1, e2⟩ := h q kV doc pm an cdv ct us its hun hl
      refine BindsTo.of_looks fun M => ?_
      rw [e1]
      exact looks_items X l1 o1 (.of_pure e2)
theorem bindD0 (F : FunD K x qual params body scope dvs [] f fd) (hd : dvs ≠ []) 
    (h : ∀ (q : Addr) (kV doc pm : Value) (an : Option Addr) (cdv ct : Value) (us its : List Value), us.length = ps.length → its.length = dvs.length →
      ∃ k, bindArgs (PySem.W.fnOf x qual params body scope (.ref q) kV doc pm an cdv ct) ⟨us, []⟩ = seqItems? (.ref q) >>= k ∧ k (some its.toArray) = pure (ps.zip (us ++ its.drop dvs.length))) : Binds K fd ps [] := by
  obtain ⟨ds, r, b⟩ := bindD F ps.length dvs.length hd (by omega) h
  rw [List.drop_length] at r
  cases r
  exact b
end
theorem vals_append : ∀ {a b : List V} {us ws : List Value}, Vals a us → Vals b ws → Vals (a ++ b) (us ++ ws)
  | _, _, _, _, .nil, h => h
  | _, _, _, _, .cons h r, h2 => .cons h (vals_append r h2)
theorem exm_two {K : PySem.W.Frag} {S S2 : Addr} {b : Bool} (h1 : PySem.W.subIn K (.ref S2) (.type "BaseException") = some true) (h2 : PySem.W.isClsIn K S2 = true) (h3 : PySem.W.typeIn K (.ref S2) = some (.type "type")) (h4 : PySem.W.subIn K (.ref S) (.ref S2) = some b) :
    PySem.W.exmOne K (.ref S) (.ref S2) = some b := by
  have e1 : (PySem.W.subIn K (.ref S2) (.type "BaseException") == some true) = true := by rw [h1] <;> rfl
  have e2 : ((PySem.W.clsIn K S2).isSome && PySem.W.typeIn K (.ref S2) == some (.type "type")) = true := by
    have h2' : (PySem.W.clsIn K S2).isSome = true := h2
    rw [h2', h3] <;> rfl
  show (if (PySem.W.subIn K (.ref S2) (.type "BaseException") == some true) = true then (if ((PySem.W.clsIn K S2).isSome && PySem.W.typeIn K (.ref S2) == some (.type "type")) = true then PySem.W.subIn K (.ref S) (.ref S2) else none) else none) = some b
  rw [if_pos e1, if_pos e2]
  exact h4
theorem cx_no {P : Program} {w : World} {H : Hp} {s : Shared} {e : Value} {s' : Shared} (h : L2.CX P w [] H s (fun _ _ _ => False) e s') : False := by
  obtain ⟨_, _, _, _, _, _, _, _, _, _, _, _, z⟩ := h
  exact z
end Dm

set_option Elab.async false
set_option linter.all false
set_option maxRecDepth 100000
set_option maxHeartbeats 2000000
namespace Dm
open PySem PySem.Spec PyProof.Rows L2
/-! ### mathematics of mirrors -/
def Hok (cells : List Int) (s : Hd) : Prop := 0 ≤ s.pos ∧ s.pos ≤ cells.length ∧ 0 ≤ s.rest
/-- m ends well at every hand, with P -/
def Tk {α : Type} (cells : List Int) (m : MS Hd α) (P : α → Prop) : Prop := ∀ s, Hok cells s → ∃ a s', m s = .ok a s' ∧ Hok cells s' ∧ P a
section
variable {α β τ : Type} {cells : List Int} {m : MS Hd α} {P : α → Prop} {Q : β → Prop}
theorem tk_ret {a : α} (h : P a) : Tk cells (ret a) P := fun s hs => ⟨a, s, rfl, hs, h⟩
theorem tk_bnd {k : α → MS Hd β} (h : Tk cells m P) (hk : ∀ a, P a → Tk cells (k a) Q) : Tk cells (bnd m k) Q := fun s hs => by
  obtain ⟨a, s1, e, h1, p⟩ := h s hs
  obtain ⟨b, s2, e2, h2, q⟩ := hk a p s1 h1
  refine ⟨b, s2, ?_, h2, q⟩
  show (m s).go k = _
  rw [e]
  exact e2
theorem tk_mono {P' : α → Prop} (h : Tk cells m P) (w : ∀ a, P a → P' a) : Tk cells m P' := fun s hs => by
  obtain ⟨a, s1, e, h1, p⟩ := h s hs
  exact ⟨a, s1, e, h1, w a p⟩
theorem tk_nex (h : Tk cells m P) : Tk cells (nex m) P := fun s hs => by
  obtain ⟨a, s1, e, h1, p⟩ := h s hs
  refine ⟨a, s1, ?_, h1, p⟩
  unfold nex
  rw [e]
theorem tk_lft {o : Option α} {a : α} (e : o = some a) (h : P a) : Tk cells (lft o) P := by
  subst e
  exact tk_ret h
/-- a comprehension over the hand: no condition -/
theorem tk_lcAll {un : D → Option τ} {f : τ → MS Hd D} {P : D → Prop} : ∀ {ds : List D}, (∀ d ∈ ds, ∃ t, un d = some t ∧ Tk cells (f t) P) → Tk cells (lcM un (fun _ => ret true) f ds) (fun ys => ys.length = ds.length ∧ ∀ y ∈ ys, P y)
  | [], _ => tk_ret ⟨rfl, fun y hy => nomatch hy⟩
  | d :: ds, h => by
    obtain ⟨t, e, ht⟩ := h d (by simp)
    have ih := tk_lcAll (ds := ds) (fun d hd => h d (by simp [hd]))
    show Tk cells (bnd (lft (un d)) fun t => bnd (nex (ret true)) fun b => if b = true then bnd (nex (f t)) fun y => bnd (lcM un (fun _ => ret true) f ds) fun ys => ret (y :: ys) else lcM un (fun _ => ret true) f ds) _
    rw [e, lft_some, bnd_ret, nex_ret, bnd_ret, if_pos rfl]
    refine tk_bnd (tk_nex ht) fun y py => tk_bnd ih fun ys hys => tk_ret ⟨by simp [hys.1], fun z hz => ?_⟩
    rcases List.mem_cons.mp hz with e | e
    · rw [e]
      exact py
    · exact hys.2 z e
/-- .. with a condition: some of the items -/
theorem tk_lcSome {un : D → Option τ} {c : τ → MS Hd Bool} {f : τ → MS Hd D} {P : D → Prop} : ∀ {ds : List D}, (∀ d ∈ ds, ∃ t, un d = some t ∧ Tk cells (c t) (fun _ => True) ∧ Tk cells (f t) P) → Tk cells (lcM un c f ds) (fun ys => ys.length ≤ ds.length ∧ ∀ y ∈ ys, P y)
  | [], _ => tk_ret ⟨Nat.le_refl _, fun y hy => nomatch hy⟩
  | d :: ds, h => by
    obtain ⟨t, e, hc, ht⟩ := h d (by simp)
    have ih := tk_lcSome (ds := ds) (fun d hd => h d (by simp [hd]))
    show Tk cells (bnd (lft (un d)) fun t => bnd (nex (c t)) fun b => if b = true then bnd (nex (f t)) fun y => bnd (lcM un c f ds) fun ys => ret (y :: ys) else lcM un c f ds) _
    rw [e, lft_some, bnd_ret]
    refine tk_bnd (tk_nex hc) fun b _ => ?_
    cases b with
    | false =>
      rw [if_neg Bool.false_ne_true]
      exact tk_mono ih fun ys hys => ⟨Nat.le_succ_of_le hys.1, hys.2⟩
    | true =>
      rw [if_pos rfl]
      refine tk_bnd (tk_nex ht) fun y py => tk_bnd ih fun ys hys => tk_ret ⟨by simpa using hys.1, fun z hz => ?_⟩
      rcases List.mem_cons.mp hz with e | e
      · rw [e]
        exact py
      · exact hys.2 z e
end
/-- a comprehension without the hand -/
theorem lcM_ret {S τ : Type} {un : D → Option τ} {c : τ → MS S Bool} {f : τ → MS S D} {p : τ → Bool} {g : τ → D} : ∀ {ts : List τ} {ds : List D}, ds.map un = ts.map some → (∀ t ∈ ts, c t = ret (p t)) → (∀ t ∈ ts, p t = true → f t = ret (g t)) → lcM un c f ds = ret ((ts.filter p).map g)
  | [], [], _, _, _ => rfl
  | [], d :: ds, e, _, _ => by cases e
  | t :: ts, [], e, _, _ => by cases e
  | t :: ts, d :: ds, e, hc, hf => by
    rw [List.map_cons, List.map_cons] at e
    have e1 : un d = some t := (List.cons.inj e).1
    have e2 := (List.cons.inj e).2
    have ih := lcM_ret (c := c) (f := f) (p := p) (g := g) e2 (fun t ht => hc t (by simp [ht])) (fun t ht => hf t (by simp [ht]))
    show (bnd (lft (un d)) fun t => bnd (nex (c t)) fun b => if b = true then bnd (nex (f t)) fun y => bnd (lcM un c f ds) fun ys => ret (y :: ys) else lcM un c f ds) = _
    rw [e1, lft_some, bnd_ret, hc t (by simp), nex_ret, bnd_ret, ih]
    cases hp : p t with
    | false =>
      rw [if_neg Bool.false_ne_true, List.filter_cons_of_neg (by rw [hp]; exact Bool.false_ne_true)]
    | true =>
      rw [if_pos rfl, hf t (by simp) hp, nex_ret, bnd_ret, bnd_ret, List.filter_cons_of_pos hp]
      rfl
theorem eqD_int (i j : Int) : eqD (.int i) (.int j) = some (decide (i = j)) := by
  show eqD0 (.int i) (.int j) = _
  unfold eqD0
  by_cases h : i = j
  · subst h
    simp [toPy, SeqAt.shaped, PyData.eqv, PyData.canLay0, PyData.depth]
  · simp [toPy, SeqAt.shaped, PyData.eqv, h, PyData.canLay0, PyData.depth]
theorem mul_small {i j : Int} (hi : i.natAbs < 2 ^ 40) (hj : j.natAbs < 2 ^ 40) : oMul (.int i) (.int j) = some (.int (i * j)) := by
  have q1 := log2_small hi
  have q2 := log2_small hj
  show (if i.natAbs.log2 + j.natAbs.log2 < 1000000 then some (D.int (i * j)) else none) = _
  exact if_pos (by omega)
theorem mod_pos {i j : Int} (h : 0 < j) : oMod (.int i) (.int j) = some (.int (i.fmod j)) := by
  show (if decide (j ≠ 0) = true then some (D.int (i.fmod j)) else none) = _
  exact if_pos (by simp; omega)
theorem div_pos {i j : Int} (h : 0 < j) (hj : j.natAbs < 2 ^ 40) : oDiv (.int i) (.int j) = some (.int (i / j)) := by
  have q := log2_small hj
  show (if decide (0 < j ∧ j.natAbs.log2 < 9000) = true then some (D.int (i / j)) else none) = _
  exact if_pos (by simp; omega)
theorem fmod_in {i j : Int} (h : 0 < j) : 0 ≤ i.fmod j ∧ i.fmod j < j := ⟨Int.fmod_nonneg_of_pos _ h, Int.fmod_lt_of_pos _ h⟩
section
variable {β : Type} {cells : List Int} (k : D → MS Hd β) (u : Unit → MS Hd β) (h : Hd)
theorem at_get0 : bnd (hget cells 0) k h = k (.lst (cells.map D.int)) h := rfl
theorem at_get1 : bnd (hget cells 1) k h = k (.int h.pos) h := rfl
theorem at_get2 : bnd (hget cells 2) k h = k (.int h.rest) h := rfl
theorem at_get3 : bnd (hget cells 3) k h = k (.int h.total) h := rfl
theorem at_put1 (i : Int) : bnd (hput 1 (.int i)) u h = u () { h with pos := i } := rfl
theorem at_put2 (i : Int) : bnd (hput 2 (.int i)) u h = u () { h with rest := i } := rfl
theorem at_put3 (i : Int) : bnd (hput 3 (.int i)) u h = u () { h with total := i } := rfl
end
theorem oEq_int (i j : Int) : oEq (.int i) (.int j) = some (.bl (decide (i = j))) := by
  unfold oEq
  rw [eqD_int]
  rfl
theorem oNe_int (i j : Int) : oNe (.int i) (.int j) = some (.bl (!decide (i = j))) := by
  unfold oNe
  rw [eqD_int]
  rfl
theorem oAdd_int (i j : Int) : oAdd (.int i) (.int j) = some (.int (i + j)) := rfl
theorem oSub_int (i j : Int) : oSub (.int i) (.int j) = some (.int (i - j)) := rfl
theorem oLt_int (i j : Int) : oLt (.int i) (.int j) = some (.bl (decide (i < j))) := rfl
theorem oGt_int (i j : Int) : oGt (.int i) (.int j) = some (.bl (decide (j < i))) := rfl
theorem oLe_int (i j : Int) : oLe (.int i) (.int j) = some (.bl (decide (i ≤ j))) := rfl
theorem oGe_int (i j : Int) : oGe (.int i) (.int j) = some (.bl (decide (j ≤ i))) := rfl
theorem oIntOf_int (i : Int) : oIntOf (.int i) = some (.int i) := rfl
theorem asB_bl (b : Bool) : asB (.bl b) = some b := rfl
theorem tru_bl (b : Bool) : tru (.bl b) = some b := rfl
theorem oLen_lst (ds : List D) : oLen (.lst ds) = some (.int ds.length) := rfl
theorem oLen_tup (ds : List D) : oLen (.tup ds) = some (.int ds.length) := rfl
theorem frD_nx {S α : Type} (k : α → MS S D) (a : α) : frD k (.nx a) = k a := rfl
theorem frD_rt {S α : Type} (k : α → MS S D) (d : D) : frD k (.rt d) = ret d := rfl
/-! evaluation at a state -/
section
variable {S α β : Type} (s : S)
theorem bnd_at (m : MS S α) (k : α → MS S β) : bnd m k s = (m s).go k := rfl
theorem go_ok (a : α) (k : α → MS S β) : (Rs.ok a s).go k = k a s := rfl
theorem ret_at (a : α) : (ret a : MS S α) s = .ok a s := rfl
theorem lft_at (a : α) : (lft (some a) : MS S α) s = .ok a s := rfl
theorem ite_t {m n : MS S α} : (if true = true then m else n) s = m s := rfl
theorem ite_f {m n : MS S α} : (if false = true then m else n) s = n s := rfl
theorem nex_at {m : MS S α} {a : α} {s s' : S} (h : m s = .ok a s') : nex m s = .ok a s' := by
  unfold nex
  rw [h]
theorem frD_nxS (k : α → MS S D) (a : α) : frD k (.nx a) s = k a s := rfl
theorem frD_rtS (k : α → MS S D) (d : D) : frD k (.rt d) s = .ok d s := rfl
theorem un1_eq (d : D) : un1 d = some d := rfl
end
section
variable {cells : List Int} (h : Hd)
theorem get0_at : hget cells 0 h = .ok (.lst (cells.map D.int)) h := rfl
theorem get1_at : hget cells 1 h = .ok (.int h.pos) h := rfl
theorem get2_at : hget cells 2 h = .ok (.int h.rest) h := rfl
theorem get3_at : hget cells 3 h = .ok (.int h.total) h := rfl
theorem put1_at (i : Int) : hput 1 (.int i) h = .ok () { h with pos := i } := rfl
theorem put2_at (i : Int) : hput 2 (.int i) h = .ok () { h with rest := i } := rfl
theorem put3_at (i : Int) : hput 3 (.int i) h = .ok () { h with total := i } := rfl
end
theorem atI_map {cells : List Int} {p : Int} (h0 : 0 ≤ p) (h1 : p < cells.length) : ∃ c, oIx (.lst (cells.map D.int)) (.int p) = some (.int c) := by
  obtain ⟨k, rfl⟩ := Int.eq_ofNat_of_zero_le h0
  have hk : k < cells.length := by omega
  refine ⟨cells[k], ?_⟩
  show atI (cells.map D.int) (k : Int) = _
  refine atI_nat ?_
  rw [List.getElem?_map, List.getElem?_eq_getElem hk]
  rfl
theorem pow_18 : oPow (.int 10) (.int 18) = some (.int 1000000000000000000) := by rfl
theorem pow_20 : oPow (.int 10) (.int 20) = some (.int 100000000000000000000) := by rfl
end Dm

set_option Elab.async false
set_option linter.all false
set_option maxRecDepth 100000
set_option maxHeartbeats 4000000
namespace Dm
open PySem PySem.Spec PyProof.Rows L2
/-! ### defs that are called where no repr is under way -/
structure FnG (P : Program) (w : World) (K : PySem.W.Frag) (mg : Str → Option Value) (base : Heap) (CX : CXT) (n : Nat) (fa : Addr) (fd : FuncData) (ps : List Str) (sp : Sp) : Prop where
  len : ∀ vs H Q E, sp vs H Q E → vs.length = ps.length
  go : ∀ (A : Around) (out : List PySem.Env) (s : Shared) (H : Hp) (ar : Args) (us : List Value) (vs : List V) (Q : VK) (E : XK), A.guards = some [] → Room n A → Env0 P w K mg base A out s H → BindsTo s fd ar (ps.zip us) → Vals vs us →
    sp vs H Q E → codeAny (model P w) A (.call (.ref fa) ar) (CR CX out P w H s Q E) s
section
variable {P : Program} {w : World} {K : PySem.W.Frag} {mg : Str → Option Value} {base : Heap} {CX : CXT} {n m : Nat} {fa : Addr} {fd : FuncData} {ps : List Str} {sp : Sp}
theorem FnG.of (F : FnOk P w K mg base CX n fa fd ps sp) : FnG P w K mg base CX n fa fd ps sp where
  len := F.len
  go := fun A out s H ar us vs Q E _ room e0 bt vu z => F.run A out s H ar us vs Q E room e0 bt vu z
theorem FnG.more (F : FnG P w K mg base CX n fa fd ps sp) (h : n ≤ m) : FnG P w K mg base CX m fa fd ps sp where
  len := F.len
  go := fun A out s H ar us vs Q E g room e0 bt vu z => F.go A out s H ar us vs Q E g (room.mono h) e0 bt vu z
/-- a def by its body -/
theorem fnG_of {nm qn : Str} {pr : Arguments} {bd : List Stmt} {sc : Scope} {dv kv dc pm cd ct oc : Value} {an od : Option Addr} {sl : Array (Option Value)} {N : List Str}
    (lk : K.lookup fa = some ⟨oc, od, .func (PySem.W.fnOf nm qn pr bd sc dv kv dc pm an cd ct), sl⟩) (hc : PySem.W.codeIn K cd qn = true) (S : FnScope N ps sc) (len : ∀ vs H Q E, sp vs H Q E → vs.length = ps.length)
    (body : ∀ (A : Around) (out : List PySem.Env) (s : Shared) (H : Hp) (vs : List V) (Q : VK) (E : XK), A.guards = some [] → Room n (A.deeper (envOfC qn sc s.heap.objs.size fa cd)) → sp vs H Q E →
      ∃ t, PSs (cxOf CX P w K mg base N qn sc fa cd A out s H E) bd t ∧ t { nx := fun _ G => Q .non G, rt := Q } (start N vs) H) :
    FnG P w K mg base CX (n + 1) fa (PySem.W.fnOf nm qn pr bd sc dv kv dc pm an cd ct) ps sp := by
  refine ⟨len, fun A out s H ar us vs Q E g room e0 bt vu z => ?_⟩
  have lv := len _ _ _ _ z
  have kin : K.In s.heap := e0.mod.kin.keeps fun b o q => (e0.bs b o q).1
  have nl : s.heap.NoLimit := e0.mod.nolimit.keeps fun b o q => (e0.bs b o q).1
  have kinds : ∀ y ∈ ps.zip us, sc.names.lookup y.1 = some .local ∨ (sc.names.lookup y.1 = some .cell ∧ ((cellsFrom (s.heap.objs.size + 1) sc.names []).lookup y.1).isSome = true) := by
    rintro ⟨x, u⟩ hy
    rcases S.par x (List.of_mem_zip hy).1 with q | q
    · exact Or.inl q
    · exact Or.inr ⟨q, PySem.W.cellsFrom_some _ _ _ (Or.inl q)⟩
  refine codeAny_call_function room.depth (kin _ _ lk) rfl S.co S.gen rfl (PySem.W.codeRec_of kin hc) (bt _ _ _ _ ?_)
  refine wpAny_newFunctionEnv_cells S.kind kinds fun en he s2 x2 => ?_
  subst he
  refine ⟨nl.keeps x2.toInCall.keep, codeAny_func ?_⟩
  obtain ⟨t, ht, hz⟩ := body A out s H vs Q E g (room.deeper _) z
  have J : Inv (cxOf CX P w K mg base N qn sc fa cd A out s H E) [] (start N vs) H s2 := inv_start S room.hd e0 lv vu x2
  have done : ∀ {σ' : L2.St} {G : Hp} {v : V} {u : Value} {s' : Shared}, Inv (cxOf CX P w K mg base N qn sc fa cd A out s H E) [] σ' G s' → RelV v u → Q v G → CE out P w H s Q u s' := by
    intro σ' G v u s' I rv q
    exact ⟨v, G, I.os, I.bare, I.base, I.hok, rv, q⟩
  refine wpAny_mono (ht.run [] s2 (start N vs) H _ J hz) (fun fl s' hs => ?_) fun _ _ q => q
  cases fl with
  | ret u =>
    obtain ⟨v, σ', G, I, rv, q⟩ := hs
    exact done I rv q
  | next =>
    obtain ⟨σ', G, I, q⟩ := hs
    exact done (v := V.non) (u := Value.none) I rfl q
  | brk =>
    obtain ⟨_, _, _, q⟩ := hs
    exact q.elim
  | cont =>
    obtain ⟨_, _, _, q⟩ := hs
    exact q.elim
end
theorem fnD_okG {K : PySem.W.Frag} {x qn : Str} {pr : Arguments} {bd : List Stmt} {sc : Scope} {dvs : List V} {kws : List (Str × V)} {fa : Addr} {fd : FuncData} {P : Program} {w : World} {mg : Str → Option Value} {base : Heap} {CX : CXT} {N ps : List Str} {n : Nat} {sp : Sp} (F : FunD K x qn pr bd sc dvs kws fa fd) (S : FnScope N ps sc) (len : ∀ vs H Q E, sp vs H Q E → vs.length = ps.length)
    (body : ∀ (cd : Value) (A : Around) (out : List PySem.Env) (s : Shared) (H : Hp) (vs : List V) (Q : VK) (E : XK), A.guards = some [] → Room n (A.deeper (envOfC qn sc s.heap.objs.size fa cd)) → sp vs H Q E →
      ∃ t, PSs (cxOf CX P w K mg base N qn sc fa cd A out s H E) bd t ∧ t { nx := fun _ G => Q .non G, rt := Q } (start N vs) H) : FnG P w K mg base CX (n + 1) fa fd ps sp := by
  obtain ⟨_, _, _, _, _, _, _, _, _, _, rfl, lk, hc, _, _⟩ := F.ex
  exact fnG_of lk hc S len fun A out s H vs Q E g room z => body _ A out s H vs Q E g room z
section
variable {X : Cx} {CX : CXT} {n : Nat} {fa : Addr} {fd : FuncData} {ps ks : List Str} {sp : Sp} {dvs : List V} {ds : List Value} {E : L2.St → XK} {E1 : XK} {x : Str} {p pos : Pos} {e : Expr} {es : List Expr} {t tk : TA} {kws : List Keyword} {g : List Value → List Value → List Value} {gV : List V → List V → List V} {j : Nat}
theorem run_G {pins : List (Addr × Obj)} {σ : L2.St} {H : Hp} {s : Shared} {Q : VK} {us : List Value} {vs : List V} (G : X.A.guards = some []) (F : FnG X.prog X.w X.K X.mg X.base CX n fa fd ps sp) (room : Room n X.A) (bt : Binds X.K fd ps ds) (hd : Vals dvs ds) (out : PassesAt CX X σ (E σ))
    (I : Inv X pins σ H s) (r : Vals vs us) (z : sp (vs ++ dvs) H Q (E σ)) : wpAny (model X.prog X.w) X.A (call (.ref fa) us) (EP X pins σ Q) X.xe s := by
  have rr : Vals (vs ++ dvs) (us ++ ds) := r.append hd
  have ll : (us ++ ds).length = ps.length := rr.length.symm.trans (F.len _ _ _ _ z)
  refine wpAny_call (codeAny_mono (F.go X.A X.stack s H ⟨us, []⟩ (us ++ ds) (vs ++ dvs) Q (E σ) G room I.env0 (bt s us I.kIn ll) rr z) fun re s' hq => ?_)
  match re, hq with
  | .error er, hq => exact out pins H s er s' I hq
  | .ok (.ret u), hq => exact I.after hq
  | .ok .next, hq => exact hq.elim
  | .ok .brk, hq => exact hq.elim
  | .ok .cont, hq => exact hq.elim
/-- f(e, ..) -/
theorem pe_callG (G : X.A.guards = some []) (F : FnG X.prog X.w X.K X.mg X.base CX n fa fd ps sp) (room : Room n X.A) (hg : Gl X x) (hm : X.mg x = some (.ref fa)) (hk : PySem.W.keepIn X.K (.ref fa) = true) (bt : Binds X.K fd ps ds) (hd : Vals dvs ds) (out : ∀ σ, PassesAt CX X σ (E σ))
    (ha : PA X (e :: es) t) (hdb : (x == ("__debug__" : Str)) = false := by decide) (he : starEach (e :: es) X.env = (false, eval e X.env) :: starEach es X.env := by rfl) (hpl : (backTo pos (starEach es X.env)).any (·.1) = false := by rfl) :
    PE X (.Call (.Name x p) (e :: es) [] pos) (tCallSD sp dvs E t) where
  run := fun pins s σ H Q I h => by
    refine wpAny_Call_Name_kw (ld_glob I hg hm (PySem.W.callWith_K (h₀ := X.base) I.ok.mod.kin hk (thn (ha.run pos pins s σ H _ I h) ?_) he hpl) hdb)
    rintro us s1 ⟨vs, H1, I1, r, q⟩
    exact ⟨I1.kIn, run_G G F room bt hd (out σ) I1 r q⟩
theorem run_GN {pins : List (Addr × Obj)} {σ : L2.St} {H : Hp} {s : Shared} {Q : VK} {us ws : List Value} {vs zs : List V} (G : X.A.guards = some []) (F : FnG X.prog X.w X.K X.mg X.base CX n fa fd ps sp) (room : Room n X.A) (bt : KBn X.K fd ps j ks g gV) (out : Passes CX X E1)
    (I : Inv X pins σ H s) (r : Vals vs us) (rz : Vals zs ws) (l1 : vs.length = j) (l2 : zs.length = ks.length) (z : sp (gV vs zs) H Q E1) : wpAny (model X.prog X.w) X.A (call (.ref fa) us (ks.zip ws)) (EP X pins σ Q) X.xe s := by
  have b := bt.to s us ws I.kIn (r.length.symm.trans l1) (rz.length.symm.trans l2)
  refine wpAny_call (codeAny_mono (F.go X.A X.stack s H ⟨us, ks.zip ws⟩ (g us ws) (gV vs zs) Q E1 G room I.env0 b (bt.rel r rz) z) fun re s' hq => ?_)
  match re, hq with
  | .error er, hq => exact out pins σ H s er s' I hq
  | .ok (.ret u), hq => exact I.after hq
  | .ok .next, hq => exact hq.elim
  | .ok .brk, hq => exact hq.elim
  | .ok .cont, hq => exact hq.elim
/-- f(e, .., k = v, ..) -/
theorem pe_callGN (G : X.A.guards = some []) (F : FnG X.prog X.w X.K X.mg X.base CX n fa fd ps sp) (room : Room n X.A) (hg : Gl X x) (hm : X.mg x = some (.ref fa)) (hk : PySem.W.keepIn X.K (.ref fa) = true) (bt : KBn X.K fd ps j ks g gV) (out : Passes CX X E1)
    (ha : PA X (e :: es) t) (hkw : PK X kws tk) (hall : (backToKw pos (keywordEach kws X.env)).all (·.1.isSome) = true := by rfl) (hks : (backToKw pos (keywordEach kws X.env)).filterMap (·.1) = ks := by rfl)
    (hdb : (x == ("__debug__" : Str)) = false := by decide) (he : starEach (e :: es) X.env = (false, eval e X.env) :: starEach es X.env := by rfl)
    (hpl : ((backTo pos (starEach (e :: es) X.env)).any (·.1) || (backToKw pos (keywordEach kws X.env)).any (·.1.isNone)) = false := by rfl) : PE X (.Call (.Name x p) (e :: es) kws pos) (tCallN j ks.length sp gV E1 t tk) where
  run := fun pins s σ H Q I h => by
    refine wpAny_Call_Name_kw (ld_glob I hg hm (PySem.W.callWith_KW (h₀ := X.base) I.ok.mod.kin hk hall (thn (ha.run pos pins s σ H _ I h) ?_) hpl he) hdb)
    rintro us s1 ⟨vs, H1, I1, r, q⟩
    refine thn (hkw.run pos pins s1 σ H1 _ I1 q) ?_
    rintro ws s2 ⟨zs, H2, I2, rz, l1, l2, q2⟩
    refine ⟨I2.kIn, ?_⟩
    rw [hks]
    exact run_GN G F room bt out I2 r rz l1 l2 q2
end
/-! ### the head -/
section
variable {P : Program} {w : World} {K : PySem.W.Frag} {mg mb : Str → Option Value} {CX : CXT} {n : Nat} {fa a : Addr} {fd : FuncData} {x : Str} {sp : Sp} {s : Shared} {us : List Value} {ns : List Int}
/-- what the law's call is to end with -/
abbrev LawEnd (s : Shared) : Result → Shared → Prop := fun r s' => r = .ok (.ret (.bool true)) ∧ OldK s.heap s'.heap ∧ s'.os = s.os ∧ AllBare s'.gens
/-- with the script as the only thing that is told -/
theorem headG1 (H : Hp) (kin : K.In s.heap) (hns : s.heap.Ns mainGlobals mg) (hb : s.heap.Ns builtinsNs mb) (hbb : ∀ x : Str, x ≠ "__name__" → mb x = bootBuiltins x) (nl : s.heap.NoLimit) (hg : s.gens = #[])
    (ha : s.heap.get? a = some { cls := .type "list", data := .seq us.toArray }) (room : Room n callerA) (F : ∀ base : Heap, K.In base → base.Ns mainGlobals mg → FnG P w K mg base CX n fa fd [x] sp) (bt : ∀ (s : Shared) (u : Value), BindsTo s fd ⟨[u], []⟩ [(x, u)])
    (z : sp [.ref a] H (fun v _ => v = .bl true) fun _ _ _ => False) (hCX : ∀ e s', CX [] H s (fun _ _ _ => False) e s' → False) (only : Only H) (hok : HOk P w H s.heap) (one : ∀ b, H b ≠ none → b = a) (own : H a ≠ none → K.lookup a = none) :
    codeAny (model P w) callerA (.call (.ref fa) ⟨[.ref a], []⟩) (LawEnd s) s := by
  have see : ∀ {b : Addr} {o : Obj}, s.heap.get? b = some o → H b = none → (hidT s.heap H).get? b = some o := fun q q2 => hidT_get q q2
  have dict : ∀ {b : Addr} {o : Obj} {es : Array DictEntry} {k : Nat}, s.heap.get? b = some o → o.data = .dict es k → H b = none := by
    intro b o es k q d
    by_cases hn : H b = none
    · exact hn
    · have := one b hn
      subst this
      rw [ha] at q
      cases q
      exact absurd (show Data.seq us.toArray _ = Data.dict es k from d) (by intro y; cases y)
  have names : ∀ {b : Addr} {m : Str → Option Value}, s.heap.Ns b m → (hidT s.heap H).Ns b m := by
    rintro b m ⟨o, es, k, q, d, r⟩
    exact ⟨o, es, k, see q (dict q d), d, r⟩
  have kinB : K.In (hidT s.heap H) := by
    intro b o q
    refine see (kin b o q) ?_
    by_cases hn : H b = none
    · exact hn
    · have := one b hn
      subst this
      rw [own hn] at q
      cases q
  obtain ⟨mc, c1, c2⟩ := nl
  have mods : Mod K mg (hidT s.heap H) := ⟨kinB, names hns, ⟨mb, names hb, hbb⟩, ⟨mc, names c1, c2⟩⟩
  have e0 : Env0 P w K mg (hidT s.heap H) callerA [] s H :=
    { frames := rfl, mod := mods, bs := fun b o q => of_hidT q, bsz := Nat.le_of_eq (hidT_size _ _), funs := trivial, frf := fun b y => absurd (show b ∈ ([] : List Addr) from y) List.not_mem_nil, hok := hok, bare := .of_eq hg }
  have run := (F _ kinB (names hns)).go callerA [] s H ⟨[.ref a], []⟩ [.ref a] [.ref a] _ _ rfl room e0 (bt s (.ref a)) (.cons rfl .nil) z
  refine codeAny_mono run fun re s' h => ?_
  match re, h with
  | .error er, h => exact (hCX er s' h).elim
  | .ok .next, h => exact h.elim
  | .ok .brk, h => exact h.elim
  | .ok .cont, h => exact h.elim
  | .ok (.ret u), h =>
    obtain ⟨v, H2, hos, hbare, un, hok2, rv, q⟩ := h
    have q : v = .bl true := q
    subst q
    have rv : u = Value.bool true := rv
    subst rv
    refine ⟨rfl, OldK.of_keep fun b o y => ?_, hos, hbare⟩
    by_cases hn : H b = none
    · exact un.keep b o y hn (fun y2 => absurd (show b ∈ ([] : List Addr) from y2) List.not_mem_nil) List.not_mem_nil
    · rcases only b with y2 | ⟨ob, xs, y2⟩
      · exact absurd y2 hn
      · obtain ⟨k1, _⟩ := hok b _ y2
        obtain ⟨k2, _⟩ := hok2 b _ (un.frzs b ob _ y2)
        rw [y] at k1
        cases k1
        exact k2
theorem headG (kin : K.In s.heap) (hns : s.heap.Ns mainGlobals mg) (hb : s.heap.Ns builtinsNs mb) (hbb : ∀ x : Str, x ≠ "__name__" → mb x = bootBuiltins x) (nl : s.heap.NoLimit) (hg : s.gens = #[])
    (ha : s.heap.get? a = some { cls := .type "list", data := .seq us.toArray }) (hi : IntsAre us ns) (hl : ns.length ≤ sizeLine) (room : Room n callerA) (F : ∀ base : Heap, K.In base → base.Ns mainGlobals mg → FnG P w K mg base CX n fa fd [x] sp) (bt : ∀ (s : Shared) (u : Value), BindsTo s fd ⟨[u], []⟩ [(x, u)])
    (hsp : ∀ H : Hp, Only H → SqL K H a (ns.map V.int) → sp [.ref a] H (fun v _ => v = .bl true) fun _ _ _ => False) (hCX : ∀ H e s', CX [] H s (fun _ _ _ => False) e s' → False) :
    codeAny (model P w) callerA (.call (.ref fa) ⟨[.ref a], []⟩) (LawEnd s) s := by
  have vu := vals_ints hi
  have lu := hi.length
  cases hk : K.lookup a with
  | some o =>
    have y := kin a o hk
    rw [ha] at y
    cases y
    have q : SqL K (fun _ => none) a (ns.map V.int) := Or.inr ⟨_, us.toArray, _, hk, rfl, rfl, rfl, by rw [List.size_toArray, lu]; exact hl, by simpa using vu⟩
    exact headG1 (fun _ => none) kin hns hb hbb nl hg ha room F bt (hsp _ (fun _ => Or.inl rfl) q) (hCX _) (fun _ => Or.inl rfl) (fun b u y => by cases y) (fun b y => absurd rfl y) fun y => absurd rfl y
  | none =>
    let H : Hp := upd (fun _ => none) a (.frz { cls := .type "list", data := .seq us.toArray } (.lst (ns.map V.int)))
    have at_a : H a = some (.frz { cls := .type "list", data := .seq us.toArray } (.lst (ns.map V.int))) := upd_same
    have off : ∀ {b : Addr}, b ≠ a → H b = none := fun y => upd_ne y
    have only : Only H := fun b => by
      by_cases y : b = a
      · subst y
        exact Or.inr ⟨_, _, at_a⟩
      · exact Or.inl (off y)
    refine headG1 H kin hns hb hbb nl hg ha room F bt (hsp H only (Or.inl (Or.inr ⟨_, at_a⟩))) (hCX H) only (fun b u y => ?_) (fun b y => ?_) fun _ => hk
    · by_cases q : b = a
      · subst q
        rw [at_a] at y
        cases y
        exact ⟨ha, by rw [List.length_map]; exact hl, us, _, vu, ha⟩
      · rw [off q] at y
        cases y
    · by_cases q : b = a
      · exact q
      · exact absurd (off q) y
end
theorem walkG {l : PySem.W.OpenLaw} {n k : Nat} {q : Program} {loose : List Str} {XP : (Str → Option Value) → Heap → Prop} {YP : World → Heap → Prop} {d : DefRec} {K : Params → PySem.W.Frag} {CX : World → CXT} {sp : World → Sp} {x : Str}
    (hn : l.most = some n) (h2 : n ≤ sizeLine) (hdf : d.params.defaults = []) (room : Room k callerA) (hY : ∀ (w : World) (h : Heap), YP w h → (K w.params).In h)
    (F : ∀ (w : World) (mg : Str → Option Value) (fa : Addr) (h : Heap), (K w.params).In h → h.Ns mainGlobals mg → mg d.name = some (.ref fa) →
      ∃ fd : FuncData, (∀ (s : Shared) (u : Value), BindsTo s fd ⟨[u], []⟩ [(x, u)]) ∧ ∀ base : Heap, (K w.params).In base → base.Ns mainGlobals mg → FnG l.prog w (K w.params) mg base (CX w) k fa fd [x] (sp w))
    (hsp : ∀ (w : World) (H : Hp) (a : Addr) (ns : List Int), ns.length ≤ n → Only H → SqL (K w.params) H a (ns.map V.int) → sp w [.ref a] H (fun v _ => v = .bl true) fun _ _ _ => False)
    (hCX : ∀ (w : World) (H : Hp) (s : Shared) (e : Value) (s' : Shared), CX w [] H s (fun _ _ _ => False) e s' → False) : PySem.W.WalkO q loose XP YP l.row.toRowW d [] (fun f vs => PySem.call f vs) := by
  refine Att.attach_call hn hdf ?_
  intro w s0 s mg mb fa o pm cd doc a us ns G Y _ _ _ hmg ha hi hl hg
  have kin := hY w _ Y
  obtain ⟨fd, bt, hF⟩ := F w mg fa _ kin G.T.g hmg
  exact headG kin G.T.g G.T.b G.T.builtins G.T.nolimit hg ha hi (Nat.le_trans hl h2) room hF bt (fun H h3 h4 => hsp w H a ns hl h3 h4) fun H e s' => hCX w H s e s'
/-! ### repr -/
def rRepr (K : PySem.W.Frag) : List V → Hp → VK → Prop := fun xs H Q => ∃ x d, xs = [x] ∧ Dp K H x d ∧ d.showable = true ∧ d.hasDict = false ∧ d.depth ≤ 60 ∧ d.shown.length ≤ sizeLine ∧ Q (.str d.shown) H
theorem call_repr {X : Cx} (G : X.A.guards = some []) (hu : X.A.units + 64 < cLine) : CallR X (.builtin "repr") (rRepr X.K) := by
  rintro pins s σ H xs us Q I rv ⟨x, d, rfl, hd, sh, nd, dp, sz, q⟩
  obtain ⟨u, rfl, ru⟩ : ∃ u, us = [u] ∧ RelV x u := by
    cases rv with
    | cons h t =>
      cases t
      exact ⟨_, rfl, h⟩
  obtain ⟨as, rd⟩ := Dp.reads I d x u hd ru
  have fin : EP X pins σ Q (.str d.shown s.toks) { s with toks := s.toks + 1 } := ⟨.str _, H, I.tok _, ⟨_, rfl⟩, q⟩
  cases rd with
  | none => exact PySem.P.repr_of_none fin
  | bool b => exact PySem.P.repr_of_bool fin
  | int i t => exact PySem.P.repr_of_int (of_decide_eq_true sh) fin
  | str x t => exact PySem.P.repr_of_str fin sz
  | list h1 h2 h3 h4 => exact repr_of_reads' (.list h1 h2 h3 h4) sh (PyData.noDict_hsm nd) G (by omega) (fun _ _ e => e) (fun h' u tk hk => ⟨.str _, H, I.kept hk, ⟨_, rfl⟩, q⟩) sz
  | tuple h1 h2 h3 h4 => exact repr_of_reads' (.tuple h1 h2 h3 h4) sh (PyData.noDict_hsm nd) G (by omega) (fun _ _ e => e) (fun h' u tk hk => ⟨.str _, H, I.kept hk, ⟨_, rfl⟩, q⟩) sz
  | dict h1 h2 h3 h4 h5 => exact repr_of_reads' (.dict h1 h2 h3 h4 h5) sh (PyData.noDict_hsm nd) G (by omega) (fun _ _ e => e) (fun h' u tk hk => ⟨.str _, H, I.kept hk, ⟨_, rfl⟩, q⟩) sz
noncomputable def oRepr (d : D) : Option D := match toPy d with
  | none => none
  | some a => if a.showable = true ∧ a.hasDict = false ∧ a.depth ≤ 60 ∧ a.shown.length < tooLong then some (.str a.shown) else none
theorem o1_repr {S : Type} {J : Jc S} {ρ : Env} {K : PySem.W.Frag} : Op1 J ρ (rRepr K) oRepr := fun σ G s H L x d z o rx hz Q q => by
  unfold oRepr at hz
  cases e : toPy d with
  | none => rw [e] at hz; cases hz
  | some a =>
    rw [e] at hz
    dsimp only at hz
    split at hz
    · rename_i hc
      cases hz
      exact ⟨x, a, rfl, rX.dp o rx e, hc.1, hc.2.1, hc.2.2.1, long_ok hc.2.2.2, q _ G H (Same.refl _) o (.str _)⟩
    · cases hz
theorem call_reprK {X : Cx} {K : PySem.W.Frag} (h : X.K = K) (G : X.A.guards = some []) (hu : X.A.units + 64 < cLine) : CallR X (.builtin "repr") (rRepr K) := h ▸ call_repr G hu
end Dm

set_option Elab.async false
set_option linter.all false
set_option maxRecDepth 100000
set_option maxHeartbeats 2000000
namespace Dm
open PySem PySem.Spec PyProof.Rows L2
/-! ### x is True, x is False -/
theorem rel_bl {x : V} {b : Bool} (r : RelV x (Value.bool b)) : x = .bl b := by
  cases x with
  | bl c =>
    have r : Value.bool b = Value.bool c := r
    cases r
    rfl
  | non => cases (show Value.bool b = Value.none from r)
  | int i => obtain ⟨t, r⟩ := (show ∃ t, Value.bool b = Value.int i t from r); cases r
  | str i => obtain ⟨t, r⟩ := (show ∃ t, Value.bool b = Value.str i t from r); cases r
  | byt i => obtain ⟨t, r⟩ := (show ∃ t, Value.bool b = Value.bytes i t from r); cases r
  | flt i => obtain ⟨t, r⟩ := (show ∃ t, Value.bool b = Value.float i t from r); cases r
  | ref i => cases (show Value.bool b = Value.ref i from r)
  | ty i => cases (show Value.bool b = Value.type i from r)
theorem plain_bool {x : V} {v : Value} (b : Bool) (r : RelV x v) : PySem.plainIs v (Value.bool b) = true := by
  cases x with
  | non => rw [show v = Value.none from r]; rfl
  | bl c => rw [show v = Value.bool c from r]; rfl
  | int i => obtain ⟨t, r⟩ := (show ∃ t, v = Value.int i t from r); rw [r]; rfl
  | str i => obtain ⟨t, r⟩ := (show ∃ t, v = Value.str i t from r); rw [r]; rfl
  | byt i => obtain ⟨t, r⟩ := (show ∃ t, v = Value.bytes i t from r); rw [r]; rfl
  | flt i => obtain ⟨t, r⟩ := (show ∃ t, v = Value.float i t from r); rw [r]; rfl
  | ref i => rw [show v = Value.ref i from r]; rfl
  | ty i => rw [show v = Value.type i from r]; rfl
theorem op_isBool {X : Cx} : OpR X (compareOp .Is) (fun x y H Q => ∃ b, y = .bl b ∧ Q (.bl (decide (x = .bl b))) H) := by
  rintro pins s σ H x y v u Q I rx ry ⟨b, rfl, q⟩
  have hu : u = Value.bool b := ry
  subst hu
  by_cases e : v = Value.bool b
  · subst e
    have ex := rel_bl rx
    subst ex
    exact wpAny_is_self rfl ⟨.bl true, H, I, rfl, by simpa using q⟩
  · have ne : x ≠ .bl b := fun z => e (by subst z; exact rx)
    exact wpAny_is_other (plain_bool b rx) e ⟨.bl false, H, I, rfl, by rw [decide_eq_false ne] at q; exact q⟩
def isBl (b : Bool) : D → Bool
  | .bl c => c == b
  | _ => false
def oIsB (a : D) : D → Option D
  | .bl b => some (.bl (isBl b a))
  | _ => none
theorem o2_isB {S : Type} {J : Jc S} {ρ : Env} : Op2 J ρ (fun x y H Q => ∃ b, y = .bl b ∧ Q (.bl (decide (x = .bl b))) H) oIsB := fun σ G s H L x y d e z o rx ry hz Q q => by
  cases e with
  | bl b =>
    cases hz
    refine ⟨b, rX.bl ry, ?_⟩
    have hd : decide (x = .bl b) = isBl b d := by
      cases d with
      | bl c =>
        rw [rX.bl rx]
        unfold isBl
        by_cases h : c = b
        · subst h
          simp
        · simp [h]
      | non => rw [rX.non rx]; exact decide_eq_false (by intro z; cases z)
      | int i => rw [rX.int rx]; exact decide_eq_false (by intro z; cases z)
      | str i => rw [rX.str rx]; exact decide_eq_false (by intro z; cases z)
      | lst ds => obtain ⟨a, _, rfl, _⟩ := rX.lst o rx; exact decide_eq_false (by intro z; cases z)
      | tup ds => obtain ⟨a, _, rfl, _⟩ := rX.tup o rx; exact decide_eq_false (by intro z; cases z)
      | dct ds => obtain ⟨a, rfl, _⟩ := rX.dct o rx; exact decide_eq_false (by intro z; cases z)
      | obj c ds => obtain ⟨a, _, _, rfl, _⟩ := rX.obj o rx; exact decide_eq_false (by intro z; cases z)
    rw [hd]
    exact q _ G H (Same.refl _) o (.bl _)
  | _ => cases hz
end Dm

set_option Elab.async false
set_option linter.all false
set_option maxRecDepth 100000
set_option maxHeartbeats 2000000
namespace Dm
open PySem PySem.Spec PyProof.Rows L2
/-! ### mathematics of mirrors: lists, walks, data -/
theorem atI_mem {ds : List D} {p : Int} (h0 : 0 ≤ p) (h1 : p < ds.length) : ∃ d, d ∈ ds ∧ oIx (.lst ds) (.int p) = some d := by
  obtain ⟨k, rfl⟩ := Int.eq_ofNat_of_zero_le h0
  have hk : k < ds.length := by omega
  refine ⟨ds[k], List.getElem_mem hk, ?_⟩
  show atI ds (k : Int) = _
  exact atI_nat (List.getElem?_eq_getElem hk)
theorem rg1_ok {n : Int} (h0 : 0 ≤ n) (h1 : n < 1000) : rg1 [.int n] = some (rgD 0 n.toNat) := by
  show (if n.natAbs < 2305843009213693952 then some (rgD 0 n.toNat) else none) = _
  exact if_pos (by omega)
theorem mkL_ok {ds : List D} (h : ds.length < 1000000) : mkL ds = some ds := if_pos h
def Pl : D → Prop
  | .obj _ _ => False
  | _ => True
def isCol : D → Bool
  | .int k => decide (0 ≤ k) && decide (k ≤ 99)
  | _ => false
def badAt : Nat → List D → Option Nat
  | _, [] => none
  | n, d :: ds => if isCol d = true then badAt (n + 1) ds else some n
def opt : Option Nat → D
  | none => .non
  | some n => .int (n : Int)
theorem badAt_none : ∀ {ds : List D} {n : Nat}, (∀ d ∈ ds, isCol d = true) → badAt n ds = none
  | [], _, _ => rfl
  | d :: ds, n, h => by
    unfold badAt
    rw [if_pos (h d (by simp))]
    exact badAt_none fun d hd => h d (by simp [hd])
theorem tuple_ok {d : D} {ds : List D} (hd : items d = some ds) : oTuple d = some (.tup ds) := by
  unfold oTuple
  rw [hd]
  rfl
theorem len_ok {d : D} {ds : List D} (hd : items d = some ds) : oLen d = some (.int ds.length) := by
  cases d <;> first | (cases hd; rfl) | cases hd
theorem lcM_retI {S τ ι : Type} {un : D → Option τ} {c : τ → MS S Bool} {f : τ → MS S D} {e : ι → τ} {p : ι → Bool} {g : ι → D} : ∀ {ts : List ι} {ds : List D}, ds.map un = ts.map (fun t => some (e t)) → (∀ t ∈ ts, c (e t) = ret (p t)) → (∀ t ∈ ts, p t = true → f (e t) = ret (g t)) → lcM un c f ds = ret ((ts.filter p).map g)
  | [], [], _, _, _ => rfl
  | [], d :: ds, e, _, _ => by cases e
  | t :: ts, [], e, _, _ => by cases e
  | t :: ts, d :: ds, h, hc, hf => by
    rw [List.map_cons, List.map_cons] at h
    have e1 : un d = some (e t) := (List.cons.inj h).1
    have ih := lcM_retI (c := c) (f := f) (e := e) (p := p) (g := g) (List.cons.inj h).2 (fun t ht => hc t (by simp [ht])) (fun t ht => hf t (by simp [ht]))
    show (bnd (lft (un d)) fun t => bnd (nex (c t)) fun b => if b = true then bnd (nex (f t)) fun y => bnd (lcM un c f ds) fun ys => ret (y :: ys) else lcM un c f ds) = _
    rw [e1, lft_some, bnd_ret, hc t (by simp), nex_ret, bnd_ret, ih]
    cases hp : p t with
    | false => rw [if_neg Bool.false_ne_true, List.filter_cons_of_neg (by rw [hp]; exact Bool.false_ne_true)]
    | true =>
      rw [if_pos rfl, hf t (by simp) hp, nex_ret, bnd_ret, bnd_ret, List.filter_cons_of_pos hp]
      rfl
/-- items with their places -/
def idx : Nat → List Int → List (Nat × Int)
  | _, [] => []
  | n, c :: r => (n, c) :: idx (n + 1) r
theorem idx_len : ∀ (n : Nat) (r : List Int), (idx n r).length = r.length
  | _, [] => rfl
  | n, _ :: r => congrArg Nat.succ (idx_len (n + 1) r)
theorem idx_at {cs : List Int} : ∀ (r pre : List Int), cs = pre ++ r → ∀ t ∈ idx pre.length r, cs[t.1]? = some t.2
  | [], _, _, t, h => nomatch h
  | c :: r, pre, e, t, h => by
    rcases List.mem_cons.mp h with h | h
    · subst h
      rw [e]
      simp
    · refine idx_at r (pre ++ [c]) (by rw [e, List.append_assoc]; rfl) t ?_
      rw [List.length_append]
      exact h
/-- struck: what differs from the one before it -/
def dd : Option Int → List Int → List Int
  | _, [] => []
  | none, c :: r => c :: dd (some c) r
  | some p, c :: r => if c = p then dd (some c) r else c :: dd (some c) r
/-- is the item at t.1 kept -/
def keepAt (cs : List Int) (t : Nat × Int) : Bool := t.1 == 0 || !(decide (cs[t.1 - 1]? = some t.2))
theorem kept {cs : List Int} : ∀ (r pre : List Int), cs = pre ++ r → ((idx pre.length r).filter (keepAt cs)).map Prod.snd = dd pre.getLast? r
  | [], _, _ => rfl
  | c :: r, pre, e => by
    have ih := kept (cs := cs) r (pre ++ [c]) (by rw [e, List.append_assoc]; rfl)
    rw [List.length_append, List.getLast?_append] at ih
    have ih : ((idx (pre.length + 1) r).filter (keepAt cs)).map Prod.snd = dd (some c) r := ih
    show (((pre.length, c) :: idx (pre.length + 1) r).filter (keepAt cs)).map Prod.snd = _
    cases hp : pre.getLast? with
    | none =>
      have e0 : pre = [] := List.getLast?_eq_none_iff.mp hp
      rw [List.filter_cons_of_pos (by rw [e0]; rfl), List.map_cons, ih]
      rfl
    | some p =>
      have e1 : cs[pre.length - 1]? = some p := by
        rw [e, List.getElem?_append_left (by
          cases pre with
          | nil => cases hp
          | cons a l => simp), ← List.getLast?_eq_getElem?]
        exact hp
      have l0 : (pre.length == 0) = false := by
        cases pre with
        | nil => cases hp
        | cons a l => rfl
      have ek : keepAt cs (pre.length, c) = !decide (p = c) := by
        show (pre.length == 0 || !(decide (cs[pre.length - 1]? = some c))) = _
        rw [l0, e1, Bool.false_or]
        simp
      show _ = if c = p then dd (some c) r else c :: dd (some c) r
      by_cases q : c = p
      · rw [if_pos q, List.filter_cons_of_neg (by rw [ek]; simp [q]), ih]
      · rw [if_neg q, List.filter_cons_of_pos (by rw [ek]; simp [Ne.symm q]), List.map_cons, ih]
theorem dd_idem : ∀ (o : Option Int) (r : List Int), dd o (dd o r) = dd o r
  | none, [] => rfl
  | some _, [] => rfl
  | none, c :: r => by
    show c :: dd (some c) (dd (some c) r) = _
    rw [dd_idem (some c) r]
    rfl
  | some p, c :: r => by
    show dd (some p) (if c = p then dd (some c) r else c :: dd (some c) r) = if c = p then dd (some c) r else c :: dd (some c) r
    by_cases q : c = p
    · rw [if_pos q, ← q, dd_idem (some c) r]
    · rw [if_neg q]
      show (if c = p then _ else c :: dd (some c) (dd (some c) r)) = _
      rw [if_neg q, dd_idem (some c) r]
theorem numb_un2 : ∀ (n : Nat) (r : List Int), (numb n (r.map D.int)).map un2 = (idx n r).map fun t => some (D.int (t.1 : Int), D.int t.2)
  | _, [] => rfl
  | n, c :: r => by
    show some (D.int (n : Int), D.int c) :: (numb (n + 1) (r.map D.int)).map un2 = _
    rw [numb_un2 (n + 1) r]
    rfl
theorem rg_idx : ∀ (r : List Int) (n : Nat), (List.range' n r.length).map (fun (i : Nat) => D.int (i : Int)) = (idx n r).map fun t => D.int (t.1 : Int)
  | [], _ => rfl
  | c :: r, n => by
    rw [List.length_cons, List.range'_succ, List.map_cons, rg_idx r (n + 1)]
    rfl
theorem rgD_idx (cs : List Int) : rgD 0 cs.length = (idx 0 cs).map fun t => D.int (t.1 : Int) := by
  rw [← rg_idx cs 0, ← List.range_eq_range']
  unfold rgD
  refine List.map_congr_left fun i _ => ?_
  rw [Int.zero_add]
theorem ix_ok {d : D} {cs : List Int} {i : Nat} {c : Int} (hd : items d = some (cs.map D.int)) (h : cs[i]? = some c) : oIx d (.int (i : Int)) = some (.int c) := by
  have e : (cs.map D.int)[i]? = some (.int c) := by rw [List.getElem?_map, h]; rfl
  cases d with
  | lst ds =>
    cases hd
    exact L2.atI_nat e
  | tup ds =>
    cases hd
    exact L2.atI_nat e
  | _ => cases hd
theorem keep_pos {cs : List Int} {t : Nat × Int} {p : Int} (h0 : t.1 ≠ 0) (h : cs[t.1 - 1]? = some p) : keepAt cs t = !decide (p = t.2) := by
  unfold keepAt
  rw [h]
  have : (t.1 == 0) = false := by simpa using h0
  rw [this, Bool.false_or]
  simp
/-- the earliest places of the row in w, whose first item has the place n -/
def gp : Nat → List Int → List Int → Option (List Nat)
  | _, [], _ => some []
  | _, _ :: _, [] => none
  | n, t :: ts, c :: w => if c = t then (gp (n + 1) ts w).map (n :: ·) else gp (n + 1) (t :: ts) w
/-- the program's walk -/
def fp (row : List Int) : Nat → List Int → List Nat → List Nat
  | _, [], acc => acc
  | n, c :: w, acc => if row[acc.length]? = some c then fp row (n + 1) w (acc ++ [n]) else fp row (n + 1) w acc
theorem fp_gp (row : List Int) : ∀ (w : List Int) (n : Nat) (acc : List Nat), acc.length ≤ row.length → (match gp n (row.drop acc.length) w with | some g => fp row n w acc = acc ++ g ∧ g.length + acc.length = row.length | none => (fp row n w acc).length < row.length)
  | [], n, acc, h => by
    by_cases e : acc.length = row.length
    · rw [List.drop_eq_nil_of_le (by omega)]
      exact ⟨(List.append_nil _).symm, by simpa using e⟩
    · obtain ⟨a, l, e2⟩ : ∃ a l, row.drop acc.length = a :: l := by
        cases q : row.drop acc.length with
        | nil =>
          have := List.drop_eq_nil_iff.mp q
          omega
        | cons a l => exact ⟨a, l, rfl⟩
      rw [e2]
      show acc.length < row.length
      omega
  | c :: w, n, acc, h => by
    by_cases e : acc.length = row.length
    · have ih := fp_gp row w (n + 1) acc h
      rw [List.drop_eq_nil_of_le (by omega)] at ih ⊢
      have e1 : row[acc.length]? = none := List.getElem?_eq_none (by omega)
      have e2 : fp row n (c :: w) acc = fp row (n + 1) w acc := by
        show (if row[acc.length]? = some c then _ else _) = _
        rw [e1, if_neg (by intro q; cases q)]
      rw [e2]
      cases w <;> exact ih
    · have hl : acc.length < row.length := by omega
      have e2 : row.drop acc.length = row[acc.length] :: row.drop (acc.length + 1) := List.drop_eq_getElem_cons hl
      have e1 : row[acc.length]? = some row[acc.length] := List.getElem?_eq_getElem hl
      rw [e2]
      by_cases q : c = row[acc.length]
      · have ih := fp_gp row w (n + 1) (acc ++ [n]) (by rw [List.length_append]; exact hl)
        have e3 : fp row n (c :: w) acc = fp row (n + 1) w (acc ++ [n]) := by
          show (if row[acc.length]? = some c then _ else _) = _
          rw [e1, if_pos (by rw [q])]
        rw [List.length_append, List.length_singleton] at ih
        rw [e3]
        show match (if c = row[acc.length] then (gp (n + 1) (row.drop (acc.length + 1)) w).map (n :: ·) else _) with | some g => _ | none => _
        rw [if_pos q]
        cases hg : gp (n + 1) (row.drop (acc.length + 1)) w with
        | none =>
          rw [hg] at ih
          exact ih
        | some g =>
          rw [hg] at ih
          refine ⟨by rw [ih.1, List.append_assoc]; rfl, ?_⟩
          have := ih.2
          show (n :: g).length + acc.length = _
          rw [List.length_cons]
          omega
      · have ih := fp_gp row w (n + 1) acc h
        rw [e2] at ih
        have e3 : fp row n (c :: w) acc = fp row (n + 1) w acc := by
          show (if row[acc.length]? = some c then _ else _) = _
          rw [e1, if_neg (by intro z; exact q (Option.some.inj z).symm)]
        rw [e3]
        show match (if c = row[acc.length] then _ else gp (n + 1) (row[acc.length] :: row.drop (acc.length + 1)) w) with | some g => _ | none => _
        rw [if_neg q]
        exact ih
def optL : Option (List Nat) → D
  | none => .non
  | some g => .tup (g.map fun (n : Nat) => .int (n : Int))
theorem toPys_ints : ∀ cs : List Int, toPys (cs.map D.int) = some (cs.map PyData.int)
  | [] => rfl
  | c :: cs => by
    rw [List.map_cons]
    unfold toPys
    rw [toPys_ints cs]
    rfl
theorem lay_ints : ∀ cs : List Int, PyData.canLayAll0 (cs.map PyData.int) = true
  | [] => by simp [PyData.canLayAll0]
  | c :: cs => by simp [PyData.canLayAll0, PyData.canLay0, lay_ints cs]
theorem depth_ints : ∀ cs : List Int, PyData.depthAll (cs.map PyData.int) = 0
  | [] => by simp [PyData.depthAll]
  | c :: cs => by simp [PyData.depthAll, PyData.depth, depth_ints cs]
theorem eqv_ints : ∀ cs ds : List Int, PyData.eqvAll (cs.map PyData.int) (ds.map PyData.int) = decide (cs = ds)
  | [], [] => by simp [PyData.eqvAll]
  | [], d :: ds => by simp [PyData.eqvAll]
  | c :: cs, [] => by simp [PyData.eqvAll]
  | c :: cs, d :: ds => by
    simp only [List.map_cons, PyData.eqvAll, PyData.eqv, eqv_ints cs ds]
    by_cases h : c = d
    · subst h
      simp
    · simp [h]
theorem eqD_lst (cs ds : List Int) : eqD (.lst (cs.map D.int)) (.lst (ds.map D.int)) = some (decide (cs = ds)) := by
  show eqD0 (.lst (cs.map D.int)) (.lst (ds.map D.int)) = _
  unfold eqD0 toPy
  rw [toPys_ints, toPys_ints]
  simp [SeqAt.shaped, PyData.canLay0, PyData.depth, lay_ints, depth_ints, PyData.eqv, eqv_ints]
theorem eqD_tup (cs ds : List Int) : eqD (.tup (cs.map D.int)) (.tup (ds.map D.int)) = some (decide (cs = ds)) := by
  show eqD0 (.tup (cs.map D.int)) (.tup (ds.map D.int)) = _
  unfold eqD0 toPy
  rw [toPys_ints, toPys_ints]
  simp [SeqAt.shaped, PyData.canLay0, PyData.depth, lay_ints, depth_ints, PyData.eqv, eqv_ints]
/-- the first place of t in w -/
def fst? : Nat → Int → List Int → Option Nat
  | _, _, [] => none
  | n, t, c :: w => if c = t then some n else fst? (n + 1) t w
theorem fst_head : ∀ (w : List Int) (n : Nat) (t : Int), (((idx n w).filter fun x => decide (x.2 = t)).map Prod.fst).head? = fst? n t w
  | [], _, _ => rfl
  | c :: w, n, t => by
    show ((((n, c) :: idx (n + 1) w).filter fun x => decide (x.2 = t)).map Prod.fst).head? = (if c = t then some n else fst? (n + 1) t w)
    by_cases h : c = t
    · rw [if_pos h, List.filter_cons_of_pos (by simp [h])]
      rfl
    · rw [if_neg h, List.filter_cons_of_neg (by simp [h])]
      exact fst_head w (n + 1) t
theorem gp_fst : ∀ (w : List Int) (n : Nat) (t : Int) (ts : List Int), gp n (t :: ts) w = match fst? n t w with | none => none | some k => (gp (k + 1) ts (w.drop (k + 1 - n))).map (k :: ·)
  | [], _, _, _ => rfl
  | c :: w, n, t, ts => by
    show (if c = t then (gp (n + 1) ts w).map (n :: ·) else gp (n + 1) (t :: ts) w) = match (if c = t then some n else fst? (n + 1) t w) with | none => none | some k => _
    by_cases h : c = t
    · rw [if_pos h, if_pos h]
      show _ = (gp (n + 1) ts ((c :: w).drop (n + 1 - n))).map (n :: ·)
      rw [show n + 1 - n = 1 by omega]
      rfl
    · rw [if_neg h, if_neg h, gp_fst w (n + 1) t ts]
      cases q : fst? (n + 1) t w with
      | none => rfl
      | some k =>
        have hk : n + 1 ≤ k := by
          clear gp_fst
          have go : ∀ (w : List Int) (n k : Nat), fst? n t w = some k → n ≤ k := by
            intro w
            induction w with
            | nil => intro n k z; cases z
            | cons c w ih =>
              intro n k z
              unfold fst? at z
              by_cases y : c = t
              · rw [if_pos y] at z
                cases z
                exact Nat.le_refl _
              · rw [if_neg y] at z
                exact Nat.le_of_succ_le (ih (n + 1) k z)
          exact go w (n + 1) k q
        show (gp (k + 1) ts (w.drop (k + 1 - (n + 1)))).map (k :: ·) = (gp (k + 1) ts ((c :: w).drop (k + 1 - n))).map (k :: ·)
        rw [show k + 1 - n = (k + 1 - (n + 1)) + 1 by omega, List.drop_succ_cons]
theorem forF_nx {S α τ : Type} {un : D → Option τ} {f : τ → α → MS S (Fl α α)} {d : D} {ds : List D} {t : τ} {a b : α} (hu : un d = some t) (h : f t a = ret (.nx b)) : forF un f (d :: ds) a = forF un f ds b := by
  conv => lhs; unfold forF
  rw [hu, lft_some, bnd_ret, h, bnd_ret]
theorem forF_rt {S α τ : Type} {un : D → Option τ} {f : τ → α → MS S (Fl α α)} {d e : D} {ds : List D} {t : τ} {a : α} (hu : un d = some t) (h : f t a = ret (.rt e)) : forF un f (d :: ds) a = ret (.rt e) := by
  conv => lhs; unfold forF
  rw [hu, lft_some, bnd_ret, h, bnd_ret]
def nats (g : List Nat) : List D := g.map fun (n : Nat) => .int (n : Int)
theorem rg2_ok {a b : Nat} (ha : a < 1000) (hb : b < 1000) : rg2 [.int (a : Int), .int (b : Int)] = some (rgD (a : Int) (b - a)) := by
  unfold rg2
  dsimp only
  rw [if_pos (by constructor <;> omega), show ((b : Int) - (a : Int)).toNat = b - a by omega]
theorem rgD_idx2 (w : List Int) (b : Nat) : rgD (b : Int) (w.length - b) = (idx b (w.drop b)).map fun t => D.int (t.1 : Int) := by
  rw [← rg_idx (w.drop b) b, List.length_drop]
  unfold rgD
  rw [List.range'_eq_map_range, List.map_map]
  refine List.map_congr_left fun i _ => ?_
  show D.int ((b : Int) + (i : Int)) = D.int ((b + i : Nat) : Int)
  rw [Int.natCast_add]
theorem dd_none : ∀ (p : Int) (r : List Int), dd none (dd (some p) r) = dd (some p) r
  | _, [] => rfl
  | p, c :: r => by
    show dd none (if c = p then dd (some c) r else c :: dd (some c) r) = if c = p then dd (some c) r else c :: dd (some c) r
    by_cases q : c = p
    · rw [if_pos q, dd_none c r]
    · rw [if_neg q]
      show c :: dd (some c) (dd (some c) r) = _
      rw [dd_idem]
theorem dd_head : ∀ (p : Int) (r : List Int), (dd (some p) r).take 1 ≠ [p]
  | _, [] => by intro h; cases h
  | p, c :: r => by
    show (if c = p then dd (some c) r else c :: dd (some c) r).take 1 ≠ [p]
    by_cases q : c = p
    · rw [if_pos q, ← q]
      exact dd_head c r
    · rw [if_neg q]
      intro h
      exact q (List.cons.inj h).1
/-- the head let go if it is the first colour -/
def le (k : Option Int) (xs : List Int) : List Int := match k with
  | none => xs
  | some k => if xs.take 1 = [k] then xs.drop 1 else xs
theorem le_t {k : Int} {xs : List Int} (h : xs.take 1 = [k]) : le (some k) xs = xs.drop 1 := if_pos h
theorem le_f {k : Int} {xs : List Int} (h : ¬ xs.take 1 = [k]) : le (some k) xs = xs := if_neg h
theorem le_idem (k : Option Int) (cs : List Int) : le k (dd none (le k (dd none cs))) = le k (dd none cs) := by
  cases k with
  | none => exact dd_idem none cs
  | some k =>
    by_cases h : (dd none cs).take 1 = [k]
    · rw [le_t h]
      cases cs with
      | nil => cases h
      | cons c r =>
        have hc : c = k := (List.cons.inj (show c :: _ = [k] from h)).1
        subst hc
        show le (some c) (dd none (dd (some c) r)) = dd (some c) r
        rw [dd_none, le_f (dd_head c r)]
    · rw [le_f h, dd_idem, le_f h]
def fo : Option Int → D
  | none => .non
  | some k => .int k
theorem cut_take {α : Type} (xs : List α) : cut xs none (some 1) = xs.take 1 := by
  cases xs <;> simp [cut, HT.sIx]
theorem cut_drop {α : Type} (xs : List α) : cut xs (some 1) none = xs.drop 1 := by
  cases xs <;> simp [cut, HT.sIx]
theorem eqD_non_tup (cs : List Int) : eqD (.tup (cs.map D.int)) (.tup [.non]) = some false := by
  show eqD0 (.tup (cs.map D.int)) (.tup [.non]) = _
  unfold eqD0 toPy
  rw [toPys_ints]
  cases cs with
  | nil => simp [toPys, toPy, SeqAt.shaped, PyData.canLay0, PyData.depth, PyData.canLayAll0, PyData.depthAll, PyData.eqv, PyData.eqvAll]
  | cons c r => simp [toPys, toPy, SeqAt.shaped, PyData.canLay0, PyData.depth, lay_ints, depth_ints, PyData.canLayAll0, PyData.depthAll, PyData.eqv, PyData.eqvAll]
theorem eqD_optL (o : Option (List Nat)) : eqD (optL o) (optL o) = some true := by
  cases o with
  | none => rfl
  | some g =>
    have h := eqD_tup (g.map fun (n : Nat) => (n : Int)) (g.map fun (n : Nat) => (n : Int))
    rw [List.map_map, decide_eq_true rfl] at h
    exact h
theorem oNe_of {d e : D} {b : Bool} (h : eqD d e = some b) : oNe d e = some (.bl (!b)) := by
  unfold oNe
  rw [h]
  rfl
theorem oEq_of {d e : D} {b : Bool} (h : eqD d e = some b) : oEq d e = some (.bl b) := by
  unfold oEq
  rw [h]
  rfl
theorem dd_len : ∀ (o : Option Int) (r : List Int), (dd o r).length ≤ r.length
  | none, [] => Nat.le_refl _
  | some _, [] => Nat.le_refl _
  | none, c :: r => Nat.succ_le_succ (dd_len (some c) r)
  | some p, c :: r => by
    show (if c = p then dd (some c) r else c :: dd (some c) r).length ≤ _
    by_cases q : c = p
    · rw [if_pos q]
      exact Nat.le_succ_of_le (dd_len (some c) r)
    · rw [if_neg q]
      exact Nat.succ_le_succ (dd_len (some c) r)
theorem dd_mem : ∀ (o : Option Int) (r : List Int), ∀ x ∈ dd o r, x ∈ r
  | none, [], x, h => h
  | some _, [], x, h => h
  | none, c :: r, x, h => by
    rcases List.mem_cons.mp h with h | h
    · rw [h]
      simp
    · exact List.mem_cons_of_mem _ (dd_mem (some c) r x h)
  | some p, c :: r, x, h => by
    have h : x ∈ (if c = p then dd (some c) r else c :: dd (some c) r) := h
    by_cases q : c = p
    · rw [if_pos q] at h
      exact List.mem_cons_of_mem _ (dd_mem (some c) r x h)
    · rw [if_neg q] at h
      rcases List.mem_cons.mp h with h | h
      · rw [h]
        simp
      · exact List.mem_cons_of_mem _ (dd_mem (some c) r x h)
theorem le_mem {k : Option Int} {xs : List Int} {x : Int} (h : x ∈ le k xs) : x ∈ xs := by
  cases k with
  | none => exact h
  | some k =>
    unfold le at h
    dsimp only at h
    split at h
    · exact List.mem_of_mem_drop h
    · exact h
theorem le_len (k : Option Int) (xs : List Int) : (le k xs).length ≤ xs.length := by
  cases k with
  | none => exact Nat.le_refl _
  | some k =>
    unfold le
    dsimp only
    split
    · rw [List.length_drop]
      omega
    · exact Nat.le_refl _
theorem badAt_at : ∀ {ds : List D} {n : Nat} {x : D} {r : List D}, (∀ d ∈ ds, isCol d = true) → isCol x = false → badAt n (ds ++ x :: r) = some (n + ds.length)
  | [], n, x, r, _, hx => by
    show (if isCol x = true then _ else some n) = _
    rw [hx, if_neg Bool.false_ne_true]
    rfl
  | d :: ds, n, x, r, h, hx => by
    show (if isCol d = true then badAt (n + 1) (ds ++ x :: r) else some n) = _
    rw [if_pos (h d (by simp)), badAt_at (fun d hd => h d (by simp [hd])) hx, List.length_cons]
    congr 1
    omega
theorem tk_ite {α : Type} {cells : List Int} {P : α → Prop} {b : Bool} {m n : MS Hd α} (h1 : b = true → Tk cells m P) (h2 : b = false → Tk cells n P) : Tk cells (if b = true then m else n) P := by
  cases b with
  | true => rw [if_pos rfl]; exact h1 rfl
  | false => rw [if_neg Bool.false_ne_true]; exact h2 rfl
theorem cut_takeN {α : Type} (xs : List α) (k : Nat) : cut xs none (some (k : Int)) = xs.take k := by
  unfold cut
  rw [HT.sIx_none, HT.sIx_nat, List.drop_zero, Nat.sub_zero]
  by_cases h : k ≤ xs.length
  · rw [Nat.min_eq_left h]
  · rw [Nat.min_eq_right (by omega), List.take_of_length_le (Nat.le_refl _), List.take_of_length_le (by omega)]
theorem items_lst (ds : List D) : items (.lst ds) = some ds := rfl
theorem items_tup (ds : List D) : items (.tup ds) = some ds := rfl
theorem tru_lst (ds : List D) : tru (.lst ds) = some (!ds.isEmpty) := rfl
theorem oMin2_int (i j : Int) : oMin2 (.int i) (.int j) = some (.int (if j < i then j else i)) := rfl
theorem oIx_nat {ds : List D} {k : Nat} {d : D} (h : ds[k]? = some d) : oIx (.lst ds) (.int (k : Int)) = some d := L2.atI_nat h
theorem seqIndex_nat {k n : Nat} (h : k < n) : ixN n (k : Int) = some k := by
  unfold ixN
  rw [if_pos (by omega), if_pos (by omega), Int.toNat_natCast]
theorem ins_ok {ds : List D} {k : Nat} {d : D} (h : ds.length < 1000) (hk : k < 1000) : ins1 ds (.int (k : Int)) d = some (ds.take k ++ [d] ++ ds.drop k) := by
  unfold ins1
  dsimp only
  rw [if_pos ⟨by unfold tooLong; omega, by omega, by omega⟩, Int.toNat_natCast]
theorem set1_ok {ds : List D} {k : Nat} {d : D} (h : k < ds.length) : set1 ds (.int (k : Int)) d = some (ds.set k d) := by
  unfold set1
  dsimp only
  rw [seqIndex_nat h]
theorem pop_ok {ds : List D} {k : Nat} (h : k < ds.length) (hl : ds.length < 1000) : popA ds (.int (k : Int)) = some (ds.eraseIdx k) := by
  have e : seqIndex? (k : Int) ds.length = some k := (ixN_seq (seqIndex_nat h)).1
  unfold popA
  dsimp only
  rw [if_pos (by omega), e]
  dsimp only
  rw [if_pos h]
theorem min_nat (i j : Nat) : (if (j : Int) < (i : Int) then (j : Int) else (i : Int)) = ((min i j : Nat) : Int) := by
  by_cases h : j < i
  · rw [if_pos (by omega), Nat.min_eq_right (by omega)]
  · rw [if_neg (by omega), Nat.min_eq_left (by omega)]
theorem tk_forU {τ : Type} {cells : List Int} {un : D → Option τ} {f : τ → Unit → MS Hd (Fl Unit Unit)} : ∀ {ds : List D}, (∀ d ∈ ds, ∃ t, un d = some t ∧ Tk cells (f t ()) (fun r => r = .nx ())) → Tk cells (forF un f ds ()) (fun r => r = .nx ())
  | [], _ => tk_ret rfl
  | d :: ds, h => by
    obtain ⟨t, e, ht⟩ := h d (by simp)
    have ih := tk_forU (ds := ds) fun d hd => h d (by simp [hd])
    unfold forF
    rw [e, lft_some, bnd_ret]
    refine tk_bnd ht fun r hr => ?_
    subst hr
    exact ih
theorem eqD_two (cs ws : List Int) : eqD (.tup [.lst (cs.map D.int), .lst (ws.map D.int)]) (.tup [.lst (cs.map D.int), .lst (ws.map D.int)]) = some true := by
  show eqD0 (.tup [.lst (cs.map D.int), .lst (ws.map D.int)]) (.tup [.lst (cs.map D.int), .lst (ws.map D.int)]) = _
  unfold eqD0
  simp [toPy, toPys, toPys_ints, SeqAt.shaped, PyData.canLay0, PyData.canLayAll0, PyData.depth, PyData.depthAll, lay_ints, depth_ints, PyData.eqv, PyData.eqvAll, eqv_ints]
theorem bnd_rseq {S α β : Type} {m : MS S α} {c : Nat} {fs : List D} (h : m = rse c fs) (k : α → MS S β) : bnd m k = rse c fs := by
  rw [h, bnd_rse]
theorem try_rse {S β : Type} {n c : Nat} {m : MS S β} {fs : List D} {hs : List (Nat × (List D → MS S β))} (h : m = rse c fs) : tryM n m hs = hsM n hs c fs := by
  rw [h]
  rfl
/-! ### searches -/
section
variable {S α β τ : Type}
/-- the first item for which w says something, and its place -/
def fstW (w : D → Option β) : Nat → List D → Option (Nat × β)
  | _, [] => none
  | n, d :: ds => match w d with
    | some x => some (n, x)
    | none => fstW w (n + 1) ds
theorem forN_fstW {w : D → Option β} {c : Nat} {g : Nat → β → List D} {f : D × D → Unit → MS S Unit} : ∀ {ds : List D} {n : Nat}, (∀ n, ∀ d ∈ ds, f (.int (n : Nat), d) () = match w d with | none => ret () | some x => rse c (g n x)) →
    forN un2 f (numb n ds) () = match fstW w n ds with | none => ret () | some q => rse c (g q.1 q.2)
  | [], _, _ => rfl
  | d :: ds, n, h => by
    show bnd (lft (un2 (.tup [.int (n : Int), d]))) (fun t => bnd (f t ()) fun b => forN un2 f (numb (n + 1) ds) b) = _
    rw [show un2 (.tup [.int (n : Int), d]) = some (.int (n : Int), d) from rfl, lft_some, bnd_ret, h n d (by simp)]
    unfold fstW
    cases hw : w d with
    | none =>
      dsimp only
      rw [bnd_ret]
      exact forN_fstW fun n d hd => h n d (by simp [hd])
    | some x => rfl
theorem forF_fstW {w : D → Option β} {g : Nat → β → D} {f : D × D → Unit → MS S (Fl Unit Unit)} : ∀ {ds : List D} {n : Nat}, (∀ n, ∀ d ∈ ds, f (.int (n : Nat), d) () = match w d with | none => ret (.nx ()) | some x => ret (.rt (g n x))) →
    forF un2 f (numb n ds) () = match fstW w n ds with | none => ret (.nx ()) | some q => ret (.rt (g q.1 q.2))
  | [], _, _ => rfl
  | d :: ds, n, h => by
    show bnd (lft (un2 (.tup [.int (n : Int), d]))) (fun t => bnd (f t ()) _) = _
    rw [show un2 (.tup [.int (n : Int), d]) = some (.int (n : Int), d) from rfl, lft_some, bnd_ret, h n d (by simp)]
    unfold fstW
    cases hw : w d with
    | none =>
      dsimp only
      rw [bnd_ret]
      exact forF_fstW fun n d hd => h n d (by simp [hd])
    | some x => rfl
/-- .. without places -/
theorem forF_fst1 {w : D → Option β} {g : β → D} {f : D → Unit → MS S (Fl Unit Unit)} : ∀ {ds : List D} {n : Nat}, (∀ d ∈ ds, f d () = match w d with | none => ret (.nx ()) | some x => ret (.rt (g x))) →
    forF un1 f ds () = match fstW w n ds with | none => ret (.nx ()) | some q => ret (.rt (g q.2))
  | [], _, _ => rfl
  | d :: ds, n, h => by
    unfold forF
    rw [show un1 d = some d from rfl, lft_some, bnd_ret, h d (by simp)]
    unfold fstW
    cases hw : w d with
    | none =>
      dsimp only
      rw [bnd_ret]
      exact forF_fst1 fun d hd => h d (by simp [hd])
    | some x => rfl
theorem fstW_none {w : D → Option β} : ∀ {ds : List D} {n : Nat}, fstW w n ds = none ↔ ∀ d ∈ ds, w d = none
  | [], _ => by simp [fstW]
  | d :: ds, n => by
    unfold fstW
    cases hw : w d with
    | none => simp [fstW_none (ds := ds) (n := n + 1), hw]
    | some x => simp [hw]
theorem fstW_some {w : D → Option β} : ∀ {ds : List D} {n k : Nat} {x : β}, fstW w n ds = some (k, x) → n ≤ k ∧ k < n + ds.length ∧ ∃ d ∈ ds, w d = some x
  | [], _, _, _, h => by cases h
  | d :: ds, n, k, x, h => by
    unfold fstW at h
    rw [List.length_cons]
    cases hw : w d with
    | none =>
      rw [hw] at h
      obtain ⟨a, b, e, he, q⟩ := fstW_some h
      exact ⟨by omega, by omega, e, by simp [he], q⟩
    | some y =>
      rw [hw] at h
      cases h
      exact ⟨by omega, by omega, d, by simp, hw⟩
end
/-! ### plain data -/
mutual
/-- no objects, no dicts; numbers, texts not too great -/
def pln : D → Bool
  | .non => true
  | .bl _ => true
  | .int i => decide (i.natAbs < 1000000000000000000000000000000)
  | .str x => PyData.strOk x && decide (x.length ≤ 100)
  | .lst xs => plns xs
  | .tup xs => plns xs
  | .obj _ _ => false
  | .dct _ => false
def plns : List D → Bool
  | [] => true
  | x :: xs => pln x && plns xs
end
mutual
def bulkD : D → Nat
  | .str x => x.length
  | .lst xs => bulksD xs
  | .tup xs => bulksD xs
  | _ => 0
def bulksD : List D → Nat
  | [] => 0
  | x :: xs => bulkD x + 1 + bulksD xs
end
mutual
def depD : D → Nat
  | .lst xs => depsD xs + 1
  | .tup xs => depsD xs + 1
  | _ => 0
def depsD : List D → Nat
  | [] => 0
  | x :: xs => max (depD x) (depsD xs)
end
theorem plns_mem : ∀ {ds : List D}, plns ds = true ↔ ∀ d ∈ ds, pln d = true
  | [] => by simp [plns]
  | d :: ds => by
    rw [plns, Bool.and_eq_true, plns_mem]
    simp
theorem depsD_le {k : Nat} : ∀ {ds : List D}, (∀ d ∈ ds, depD d ≤ k) → depsD ds ≤ k
  | [], _ => by simp [depsD]
  | d :: ds, h => by
    rw [depsD]
    exact Nat.max_le.2 ⟨h d (by simp), depsD_le fun d hd => h d (by simp [hd])⟩
theorem bulksD_le {k : Nat} : ∀ {ds : List D}, (∀ d ∈ ds, bulkD d ≤ k) → bulksD ds ≤ (k + 1) * ds.length
  | [], _ => by simp [bulksD]
  | d :: ds, h => by
    have h1 := h d (by simp)
    have h2 := bulksD_le (k := k) (ds := ds) fun d hd => h d (by simp [hd])
    rw [bulksD, List.length_cons, Nat.mul_succ]
    omega
theorem log2_lt_of {n k : Nat} (h : n < 2 ^ k) (hk : 0 < k) : n.log2 < k := by
  rcases Nat.eq_zero_or_pos n with e | e
  · subst e
    exact hk
  · exact (Nat.log2_lt (by omega)).2 h
/-- what toPy makes of plain data -/
structure PyOk (d : D) (a : PyData) : Prop where
  py : toPy d = some a
  lay : a.canLay0 = true
  short : a.leavesShort 40 = true
  show_ : a.showable = true
  nod : a.hasDict = false
  bulk : a.bulk = bulkD d
  dep : a.depth = depD d
structure PysOk (ds : List D) (as : List PyData) : Prop where
  py : toPys ds = some as
  lay : PyData.canLayAll0 as = true
  short : PyData.leavesShortAll 40 as = true
  show_ : PyData.showableAll as = true
  nod : PyData.hasDictAll as = false
  bulk : PyData.bulkAll as = bulksD ds
  dep : PyData.depthAll as = depsD ds
mutual
theorem pyOk : ∀ {d : D}, pln d = true → ∃ a, PyOk d a
  | .non, _ => ⟨.none, rfl, by simp [PyData.canLay0], by simp [PyData.leavesShort], by simp [PyData.showable], by simp [PyData.hasDict], by simp [PyData.bulk, bulkD], by simp [PyData.depth, depD]⟩
  | .bl b, _ => ⟨.bool b, rfl, by simp [PyData.canLay0], by simp [PyData.leavesShort], by simp [PyData.showable], by simp [PyData.hasDict], by simp [PyData.bulk, bulkD], by simp [PyData.depth, depD]⟩
  | .int i, h => by
    have h : i.natAbs < 1000000000000000000000000000000 := of_decide_eq_true (show decide (i.natAbs < 1000000000000000000000000000000) = true from h)
    refine ⟨.int i, rfl, by simp [PyData.canLay0], ?_, ?_, by simp [PyData.hasDict], by simp [PyData.bulk, bulkD], by simp [PyData.depth, depD]⟩
    · unfold PyData.leavesShort
      have e := int_text_length_le10 (a := i) (k := 30) (by decide) (by omega)
      refine decide_eq_true ?_
      show (Str.ofString (toString i)).length ≤ 40
      rw [PySem.ofString_length]
      omega
    · unfold PyData.showable
      exact decide_eq_true (Nat.lt_of_lt_of_le (log2_lt_of (k := 100) (by omega) (by decide)) (by decide))
  | .str x, h => by
    unfold pln at h
    rw [Bool.and_eq_true] at h
    refine ⟨.str x, rfl, by simp [PyData.canLay0, h.1], ?_, by simp [PyData.showable], by simp [PyData.hasDict], by simp [PyData.bulk, bulkD, Str.length], by simp [PyData.depth, depD]⟩
    unfold PyData.leavesShort
    have q := h.1
    unfold PyData.strOk at q
    rw [Array.all_eq_true_iff_forall_mem] at q
    rw [List.all_eq_true]
    intro c hc
    have := of_decide_eq_true (q c (Array.mem_toList_iff.1 hc))
    exact decide_eq_true (Nat.lt_trans this (by decide))
  | .lst xs, h => by
    obtain ⟨as, q⟩ := pysOk (ds := xs) h
    exact ⟨.list as, by unfold toPy; rw [q.py]; rfl, by unfold PyData.canLay0; exact q.lay, by unfold PyData.leavesShort; exact q.short, by unfold PyData.showable; exact q.show_, by unfold PyData.hasDict; exact q.nod, by unfold PyData.bulk bulkD; exact q.bulk, by unfold PyData.depth depD; rw [q.dep]⟩
  | .tup xs, h => by
    obtain ⟨as, q⟩ := pysOk (ds := xs) h
    exact ⟨.tuple as, by unfold toPy; rw [q.py]; rfl, by unfold PyData.canLay0; exact q.lay, by unfold PyData.leavesShort; exact q.short, by unfold PyData.showable; exact q.show_, by unfold PyData.hasDict; exact q.nod, by unfold PyData.bulk bulkD; exact q.bulk, by unfold PyData.depth depD; rw [q.dep]⟩
  | .obj _ _, h => by cases h
  | .dct _, h => by cases h
theorem pysOk : ∀ {ds : List D}, plns ds = true → ∃ as, PysOk ds as
  | [], _ => ⟨[], rfl, by simp [PyData.canLayAll0], by simp [PyData.leavesShortAll], by simp [PyData.showableAll], by simp [PyData.hasDictAll], by simp [PyData.bulkAll, bulksD], by simp [PyData.depthAll, depsD]⟩
  | d :: ds, h => by
    unfold plns at h
    rw [Bool.and_eq_true] at h
    obtain ⟨a, p⟩ := pyOk h.1
    obtain ⟨as, q⟩ := pysOk h.2
    refine ⟨a :: as, by unfold toPys; rw [p.py, q.py], by simp [PyData.canLayAll0, p.lay, q.lay], by simp [PyData.leavesShortAll, p.short, q.short], by simp [PyData.showableAll, p.show_, q.show_], by simp [PyData.hasDictAll, p.nod, q.nod], by simp [PyData.bulkAll, bulksD, p.bulk, q.bulk], by simp [PyData.depthAll, depsD, p.dep, q.dep]⟩
end
theorem repr_pln {d : D} (h : pln d = true) (hb : bulkD d ≤ 20000) (hd : depD d ≤ 60) : ∃ r, oRepr d = some (.str r) := by
  obtain ⟨a, p⟩ := pyOk h
  refine ⟨a.shown, ?_⟩
  unfold oRepr
  rw [p.py]
  have l := PyData.shown_le_bulk 40 (by decide) a p.short
  rw [p.bulk] at l
  dsimp only
  rw [if_pos ⟨p.show_, p.nod, by rw [p.dep]; exact hd, by unfold tooLong; omega⟩]
theorem eqD_self {d : D} (h : pln d = true) (hd : depD d ≤ 60) : eqD d d = some true := by
  obtain ⟨a, p⟩ := pyOk h
  refine eqD_up ?_
  unfold eqD0
  rw [p.py]
  have s : SeqAt.shaped a = true := by
    unfold SeqAt.shaped
    rw [p.lay, p.dep, Bool.true_and]
    exact decide_eq_true (by omega)
  dsimp only
  rw [s, if_pos (show (true && true) = true from rfl), PySem.SeqAt.eqv_refl a p.lay]
theorem Pl.of {d : D} (h : pln d = true) : Pl d := by
  cases d <;> first | trivial | (cases h)
theorem pln_items {d : D} {l : List D} (h : pln d = true) (e : items d = some l) : ∀ x ∈ l, pln x = true := by
  cases d <;> first | (cases e; done) | (cases e; exact plns_mem.1 h)
theorem div_pos2 {i j : Int} (h : 0 < j) (hj : j.natAbs < 2 ^ 100) : oDiv (.int i) (.int j) = some (.int (i / j)) := by
  have q := log2_lt_of hj (by decide)
  show (if decide (0 < j ∧ j.natAbs.log2 < 9000) = true then some (D.int (i / j)) else none) = _
  exact if_pos (by simp; omega)
/-- a loop over the hand -/
theorem tk_forN {α τ : Type} {cells : List Int} {un : D → Option τ} {f : τ → α → MS Hd α} (I : Nat → α → Prop) : ∀ {ds : List D} {n : Nat} {a : α}, I n a → (∀ d ∈ ds, ∃ t, un d = some t ∧ ∀ n a, I n a → Tk cells (f t a) (I (n + 1))) → Tk cells (forN un f ds a) (I (n + ds.length))
  | [], n, a, h, _ => tk_ret h
  | d :: ds, n, a, h, hf => by
    obtain ⟨t, e, ht⟩ := hf d (by simp)
    unfold forN
    rw [e, lft_some, bnd_ret]
    refine tk_bnd (ht n a h) fun b hb => ?_
    have ih := tk_forN I (ds := ds) (n := n + 1) (a := b) hb fun d hd => hf d (by simp [hd])
    rw [List.length_cons, show n + (ds.length + 1) = n + 1 + ds.length by omega]
    exact ih
theorem app_ok {ds : List D} {d : D} (h : ds.length < 1000) : app1 ds d = some (ds ++ [d]) := if_pos (by unfold tooLong; omega)
def hitF {β : Type} (g : Nat → β → D) : Option (Nat × β) → Fr Unit
  | none => .nx ()
  | some q => .rt (g q.1 q.2)
def hitL {β : Type} (g : β → D) : Option β → Fl Unit Unit
  | none => .nx ()
  | some x => .rt (g x)
theorem forF_hit {S β : Type} {w : D → Option β} {g : Nat → β → D} {f : D × D → Unit → MS S (Fl Unit Unit)} : ∀ {ds : List D} {n : Nat}, (∀ n, ∀ d ∈ ds, f (.int (n : Nat), d) () = ret (hitL (g n) (w d))) → forF un2 f (numb n ds) () = ret (hitF g (fstW w n ds))
  | [], _, _ => rfl
  | d :: ds, n, h => by
    show bnd (lft (un2 (.tup [.int (n : Int), d]))) (fun t => bnd (f t ()) _) = _
    rw [show un2 (.tup [.int (n : Int), d]) = some (.int (n : Int), d) from rfl, lft_some, bnd_ret, h n d (by simp)]
    unfold fstW
    cases hw : w d with
    | none => exact forF_hit fun n d hd => h n d (by simp [hd])
    | some x => rfl
theorem tk_forB {α τ : Type} {cells : List Int} {un : D → Option τ} {f : τ → α → MS Hd α} (N : Nat) (I : Nat → α → Prop) : ∀ {ds : List D} {n : Nat} {a : α}, n + ds.length ≤ N → I n a → (∀ d ∈ ds, ∃ t, un d = some t ∧ ∀ n a, n < N → I n a → Tk cells (f t a) (I (n + 1))) → Tk cells (forN un f ds a) (I (n + ds.length))
  | [], n, a, _, h, _ => tk_ret h
  | d :: ds, n, a, hN, h, hf => by
    rw [List.length_cons] at hN
    obtain ⟨t, e, ht⟩ := hf d (by simp)
    unfold forN
    rw [e, lft_some, bnd_ret]
    refine tk_bnd (ht n a (by omega) h) fun b hb => ?_
    have ih := tk_forB N I (ds := ds) (n := n + 1) (a := b) (by omega) hb fun d hd => hf d (by simp [hd])
    rw [List.length_cons, show n + (ds.length + 1) = n + 1 + ds.length by omega]
    exact ih
end Dm

set_option Elab.async false
set_option linter.all false
set_option maxRecDepth 100000
set_option maxHeartbeats 2000000
namespace Dm
open PySem PySem.Spec PyProof.Rows L2
/-! ### try amid a suite: the body or a clause may fall through -/
/-- slot i is not told of -/
def Frz0 (i : Nat) : Dm.Fin → Prop
  | .nx ρ => ρ.set i .U = ρ
  | .rt _ => True
  | .bk ρ => ρ.set i .U = ρ
  | .ct ρ => ρ.set i .U = ρ
def FrzO (o : Option Nat) (f : Dm.Fin) : Prop := match o with
  | none => True
  | some i => Frz0 i f
section
variable {S β : Type} {J : Jc S} {T : Ends → Prop} {esc ρ : Dm.Env} {G : Hp} {E : Ends}
theorem Fo.goneF {s : S} {o : Option Nat} {f : Dm.Fin} (hf : FrzO o f) (h : Fo J G E s f) : Fo J.quiet G (Dm.gone E o) s f := by
  cases o with
  | none => cases f <;> exact h
  | some i =>
    have un : ∀ {ρ : Dm.Env} {K : Sl → Hp → Prop}, ρ.set i .U = ρ → (∀ σ G' H L, Same G G' → Ok J.Z (J.lay s) ρ G' σ L H → K σ H) → ∀ σ G' H L, Same G G' → Ok J.Z (J.lay s) ρ G' σ L H → K (σ.set i none) H := fun {ρ K} e k σ G' H L sm o => by
      obtain ⟨L', o'⟩ := o.unset (i := i) (x := none)
      rw [e] at o'
      exact k _ G' H L' sm o'
    cases f with
    | rt d => exact h
    | nx ρ => exact un hf h
    | bk ρ => exact un hf h
    | ct ρ => exact un hf h
/-- the clauses, one by one -/
inductive HsF (J : Jc S) (T : Ends → Prop) (esc escB : Dm.Env) (fin : β → Dm.Fin) : List Cls3 → List (Nat × (List D → MS S β)) → Prop
  | nil : HsF J T esc escB fin [] []
  | name {c i : Nat} {ts : Addr → Value → Option Addr → TS} {h : List D → MS S β} {l : List Cls3} {hs : List (Nat × (List D → MS S β))}
      (hu : ∀ a dx fs, Sv J.quiet T (escB.set i (.A a (xF J.Z dx c fs))) (ts a (.ref (J.Z.cl c)) (some dx)) (escB.set i (.A a (xF J.Z dx c fs))) (h fs) fin) (hf : ∀ b, Frz0 i (fin b)) (r : HsF J T esc escB fin l hs) : HsF J T esc escB fin ((.ref (J.Z.cl c), some i, ts) :: l) ((c, h) :: hs)
  | bare {c : Nat} {ts : Addr → Value → Option Addr → TS} {h : List D → MS S β} {l : List Cls3} {hs : List (Nat × (List D → MS S β))}
      (hu : ∀ a dx fs, Sv J.quiet T escB (ts a (.ref (J.Z.cl c)) (some dx)) escB (h fs) fin) (r : HsF J T esc escB fin l hs) : HsF J T esc escB fin ((.ref (J.Z.cl c), none, ts) :: l) ((c, h) :: hs)
theorem sv_tryF {K : PySem.W.Frag} {n : Nat} {tb : WX → TS} {Wo : WX} {l : List Cls3} {hs : List (Nat × (List D → MS S β))} {m : MS S β} {escB : Dm.Env} {fin : β → Dm.Fin} (hT : ∀ E i, T E → T (gone E i)) (hx : ∀ c c', c < n → c' < n → PySem.W.exmOne K (.ref (J.Z.cl c)) (.ref (J.Z.cl c')) = some (decide (c = c')))
    (hb : ∀ X, Sv (J.to X) T escB (tb X) ρ m fin) (hh : HsF J T esc escB fin l hs) (hn : ∀ p ∈ hs, p.1 < n) (we : Wk escB esc) (hW : Wo = J.X := by rfl) : Sv J T esc (tTry K tb Wo l) ρ (tryM n m hs) fin := fun σ G s H L o E ht q => by
  subst hW
  refine hb (wHs K J.X E l) σ G s H L o E ht ?_
  have q1 : Pss J esc G E fin ((m s).cat (hsM n hs)) := q
  cases e : m s with
  | stuck =>
    rw [e] at q1
    exact q1
  | ok d s' =>
    rw [e] at q1
    have q1 : Fo J G E s' (fin d) := q1
    show Fo (J.to (wHs K J.X E l)) G E s' (fin d)
    cases hf : fin d <;> (rw [hf] at q1; exact q1)
  | ex c fs s' =>
    rw [e] at q1
    have q2 : Pss J esc G E fin (hsM n hs c fs s') := q1
    unfold hsM at q2
    by_cases hc : c < n
    · rw [if_pos hc] at q2
      intro σ1 dx vs G1 H1 L1 sm o1 hd hl hr
      have known : xF J.Z dx c fs G1 := ⟨vs, hd, hl, hr⟩
      have ran : ∀ {h : List D → MS S β} {i : Option Nat}, (∀ b, FrzO i (fin b)) → Pss J esc G E fin (pick (some h) c fs s') → ∀ esc', Pss J.quiet esc' G1 (gone E i) fin (h fs s') := fun {h i} hi q3 esc' => by
        have q4 : Pss J esc G E fin (nex (h fs) s') := q3
        unfold nex at q4
        cases e3 : h fs s' with
        | stuck => rw [e3] at q4; exact q4
        | ex _ _ _ => rw [e3] at q4; exact q4.elim
        | ok d s2 => rw [e3] at q4; exact Fo.goneF (hi d) (Fo.mono sm q4)
      have each : ∀ {l' : List Cls3} {hs' : List (Nat × (List D → MS S β))}, HsF J T esc escB fin l' hs' → (∀ p ∈ hs', p.1 < n) → Pss J esc G E fin (pick (hs'.lookup c) c fs s') → wHs K J.X E l' (.ref (J.Z.cl c)) (some dx) σ1 H1 := by
        intro l' hs' hk
        induction hk with
        | nil =>
          intro _ q3
          obtain ⟨L2, o2⟩ := o1.weak we
          exact q3 σ1 dx vs G1 H1 L2 sm o2 hd hl hr
        | @name c' i ts h l2 hs2 hu hf r ih =>
          intro hn2 q3
          have hc' : c' < n := hn2 (c', h) (by simp)
          refine ⟨_, hx c c' hc hc', fun hb a ha => ?_, fun hb => ?_⟩
          · have ec : c = c' := of_decide_eq_true hb
            subst ec
            rw [List.lookup_cons_self] at q3
            obtain ⟨L2, o2⟩ := o1.setA (i := i) (a := a) (F := xF J.Z dx c fs) fun G' s' => xF.mono known s'
            exact hu a dx fs _ G1 s' H1 L2 o2 _ (hT E (some i) ht) (ran (i := some i) hf q3 _)
          · have ec : c ≠ c' := of_decide_eq_false hb
            rw [List.lookup_cons, beq_false_of_ne ec] at q3
            exact ih (fun p hp => hn2 p (by simp [hp])) q3
        | @bare c' ts h l2 hs2 hu r ih =>
          intro hn2 q3
          have hc' : c' < n := hn2 (c', h) (by simp)
          refine ⟨_, hx c c' hc hc', fun hb a ha => ?_, fun hb => ?_⟩
          · have ec : c = c' := of_decide_eq_true hb
            subst ec
            rw [List.lookup_cons_self] at q3
            exact hu a dx fs _ G1 s' H1 L1 o1 _ (hT E none ht) (ran (i := none) (fun _ => trivial) q3 _)
          · have ec : c ≠ c' := of_decide_eq_false hb
            rw [List.lookup_cons, beq_false_of_ne ec] at q3
            exact ih (fun p hp => hn2 p (by simp [hp])) q3
      exact each hh hn q2
    · rw [if_neg hc] at q2
      exact q2.elim
end
end Dm

set_option Elab.async false
set_option linter.all false
set_option maxRecDepth 100000
set_option maxHeartbeats 8000000
namespace Dm
open PySem PySem.Spec PyProof.Rows L2
/-! ### set(list of ints), sorted of it -/
/-- the set as it is made: empty -/
abbrev bareSet (w : World) : Obj := { cls := .type "set", dict := none, data := .set #[] 0 (.fresh 0 0 (!w.params.followText "set-order")) }
section
variable {P : Program} {w : World} {A : Around} {E : Value → Shared → Prop} {s : Shared}
theorem set_of_list {a : Addr} {us : Array Value} (ks : List Int) {Q : Value → Shared → Prop} (hd : A.handled = none) (isl : s.heap.IsList a us) (iu : IntsAre us.toList ks) (room : ks.length + 1 < scanBound)
    (q : ∀ (g : Heap) (t m : Nat), SetR w g s.heap.objs.size (fun j => decide (j ∈ ks)) m → m ≤ ks.length → (∀ b o, s.heap.get? b = some o → g.get? b = some o) → Q (.ref s.heap.objs.size) { s with heap := g, toks := t }) :
    wpAny (model P w) A (call (.type "set") [.ref a]) Q E s := by
  have size : us.size = ks.length := by
    have := IntsAre.length iu
    rwa [Array.length_toList] at this
  generalize hN : s.heap.objs.size = N at *
  obtain ⟨mc, mt, hmro⟩ := PySem.F.called_set.mro
  have f1 := PySem.F.called_set.made
  have f2 := PySem.F.called_set.sub
  have f3 := PySem.F.called_set.notType
  have f4 := PySem.F.called_set.canCreate
  have f5 := PySem.F.typeCall_set_1 (.ref a)
  refine wpAny_call (codeAny_of_tree ?_)
  show wpAny _ _ (callAny (.type "set") _) _ _ _
  refine wpAny_pure ⟨Code.quiet_builtin _ (by decide +kernel), codeAny_builtin PySem.F.entry_type_call ?_⟩
  rw [Around.under_plain (weight_type_call_type "set" [.ref a] []) rfl]
  repeat (any_goals (first | assumption | wp_step))
  have born : (s.heap.push (bareSet w)).get? N = some (bareSet w) := by rw [← hN]; exact Heap.get?_push_size _ rfl
  refine codeAny_mono (code_set_led1 (.ref a) (E := E) (Q₁ := fun x u => x = .ref N ∧ u = { s with heap := s.heap.push (bareSet w) }) ⟨by rw [hN], rfl⟩) fun re u hre => ?_
  cases re with
  | error e => exact hre
  | ok fl =>
    cases fl with
    | next => exact hre.elim
    | brk => exact hre.elim
    | cont => exact hre.elim
    | ret x =>
      obtain ⟨rfl, rfl⟩ := hre
      have ty : Shared.TypeIs { s with heap := s.heap.push (bareSet w) } (.ref N) "set" := ⟨_, born, rfl⟩
      have g1 := PySem.F.called_set.init.lookup
      have g2 := PySem.F.called_set.init.bind (.ref N)
      repeat (any_goals (first | assumption | wp_step))
      have made : ∀ (X : Value) (u2 : Shared), (X = .none ∧ ∃ g t m, u2 = { s with heap := g, toks := t } ∧ SetR w g N (fun j => decide (j ∈ ks)) m ∧ m ≤ ks.length ∧ ∀ b o, s.heap.get? b = some o → g.get? b = some o) → Q (.ref N) u2 := by
        rintro X u2 ⟨_, g, t, m, rfl, k1, k2, k3⟩
        exact q g t m k1 k2 k3
      refine codeAny_mono (codeAny_call_builtin (R := wants (fun X u2 => X = .none ∧ ∃ g t m, u2 = { s with heap := g, toks := t } ∧ SetR w g N (fun j => decide (j ∈ ks)) m ∧ m ≤ ks.length ∧ ∀ b o, s.heap.get? b = some o → g.get? b = some o) E)
        PySem.F.called_set.init.plain PySem.F.entry_set_init (check_set_init_1 ty ?_)) fun re2 u2 hre2 => ?_
      · have isl2 : (s.heap.push (bareSet w)).IsList a us := isl.push _
        obtain ⟨⟨oc, od, oda, osl⟩, look, oc1, nn, od1⟩ := isl
        simp only at oc1 od1
        subst oc1
        subst od1
        have look2 : (s.heap.push (bareSet w)).get? a = some { cls := .type "list", dict := od, data := .seq us nn, slots := osl } := Heap.get?_push_of_some _ look
        have b1 := PySem.F.sub_list_set
        have b2 := PySem.F.sub_list_frozenset
        have b3 : (Value.type "list" == Value.type "dict") = false := by decide
        unfold Builtin.«set.__init__» noKeywords Builtin.Frozenset.updateFrom
        generalize hIt : pyIter = It0
        wp_walk
        subst hIt
        refine wpAny_pyIter_list isl2 (wpAny_bind (wpAny_runValue ?_))
        have aN : a < N := by rw [← hN]; exact Heap.lt_size look
        have sz : (s.heap.push (bareSet w)).objs.size = N + 1 := by rw [Heap.size_push, hN]
        have quiet : A.in1.in1.in1.handled = none := hd
        have far : a ≠ (s.heap.push (bareSet w)).objs.size := by rw [sz]; exact Nat.ne_of_lt (Nat.lt_succ_of_lt aN)
        have apart : N ∉ [(s.heap.push (bareSet w)).objs.size, a] := by
          rw [sz]
          intro y
          rcases List.mem_cons.1 y with y | y
          · exact Nat.succ_ne_self N y.symm
          · exact absurd aN (by rw [← List.mem_singleton.1 y]; exact Nat.lt_irrefl _)
        have vals : ∀ (i : Nat) (v : Value), us[i]? = some v → ∃ k t, ks[i]? = some k ∧ v = .int k t := by
          intro i v hv
          have hi : i < ks.length := by rw [← size]; exact (Array.getElem?_eq_some_iff.mp hv).1
          obtain ⟨t, y⟩ := PyProof.Rows.IntsAre.int_at iu i v (by rw [Array.getElem?_toList]; exact hv)
          refine ⟨ks[i], t, List.getElem?_eq_getElem hi, ?_⟩
          rw [y, List.getD_eq_getElem?_getD, List.getElem?_eq_getElem hi] <;> rfl
        refine set_update_ints ((Walks.list quiet _ a far us).toS) N apart ks size room vals (us.size - 0) 0 _ (by omega) (Nat.zero_le _) ⟨⟨_, Heap.get?_push_size _ rfl, rfl, rfl⟩, (isl2.push _)⟩ ⟨0, Nat.le_refl 0, setR_new_at (Heap.get?_push_of_some _ born)⟩ ?_
        intro u3 m moved hm hset
        obtain ⟨g3, gens3, drawn3, tok3, os3⟩ := u3
        have y1 : gens3 = s.gens := moved.gens
        have y2 : drawn3 = s.drawn := moved.drawn
        have y3 : os3 = s.os := moved.os
        subst y1
        subst y2
        subst y3
        show wpAny _ _ _ _ _ _
        refine wpAny_pure ?_
        show wpAny _ _ (PySem.ret Value.none) _ _ _
        refine wpAny_pure ⟨rfl, g3, tok3, m, rfl, hset, by rw [← size]; exact hm, fun b o y => ?_⟩
        have lt : b < N := by rw [← hN]; exact Heap.lt_size y
        refine moved.heap b o ?_ (Heap.get?_push_of_some _ (Heap.get?_push_of_some _ y))
        intro z
        rcases List.mem_cons.1 z with z | z
        · exact absurd lt (by rw [z]; exact Nat.lt_irrefl _)
        · rcases List.mem_cons.1 z with z | z
          · rw [sz] at z
            exact absurd lt (by rw [z]; exact Nat.not_lt.2 (Nat.le_succ _))
          · cases z
      · match re2, hre2 with
        | .error e, hre2 => exact hre2
        | .ok .next, hre2 => exact hre2.elim
        | .ok .brk, hre2 => exact hre2.elim
        | .ok .cont, hre2 => exact hre2.elim
        | .ok (.ret X), hre2 =>
          have fin := made X u2 hre2
          obtain ⟨rfl, _⟩ := hre2
          repeat (any_goals (first | assumption | wp_step))
end
def rSetI (K : PySem.W.Frag) (w : World) : List V → Hp → VK → Prop := fun xs H Q => ∃ (l : Addr) (ns : List Int), xs = [.ref l] ∧ SqL K H l (ns.map V.int) ∧ ns.length < 1000 ∧ ∀ p c, H p = none → c ≤ ns.length → Q (.ref p) (upd H p (SetO w p (fun j => decide (j ∈ ns)) c))
theorem cr_setI {X : Cx} (hc : X.calm = true) : CallR X (.type "set") (rSetI X.K X.w) := by
  rintro pins s σ H xs us Q I r ⟨l, ns, rfl, hl, hn, q⟩
  obtain ⟨u, rfl, ru⟩ : ∃ u, us = [u] ∧ RelV (.ref l) u := by
    cases r with
    | cons h t =>
      cases t
      exact ⟨_, rfl, h⟩
  have ru : u = Value.ref l := ru
  subst ru
  obtain ⟨its, rv, pl, _⟩ := I.list hl
  refine set_of_list ns (I.ok.hd hc) pl.isList (by simpa using ints_of_vals rv) (by unfold scanBound; omega) fun g t m hR hm keep => ?_
  exact ⟨.ref _, upd H s.heap.objs.size (SetO X.w s.heap.objs.size (fun j => decide (j ∈ ns)) m), I.laid (t' := t) keep (Nat.le_refl _) (setO_new hR), rfl, q _ _ (I.hok.fresh (Nat.le_refl _)) hm⟩
end Dm

set_option Elab.async false
set_option linter.all false
set_option maxRecDepth 100000
set_option maxHeartbeats 2000000
namespace Dm
open PySem PySem.Spec PyProof.Rows L2
/-! ### sorted(set(xs)) over data -/
def intsD : List D → Option (List Int)
  | [] => some []
  | .int i :: ds => (intsD ds).map (i :: ·)
  | _ :: _ => none
theorem intsD_some : ∀ {ds : List D} {ns : List Int}, intsD ds = some ns → ds = ns.map D.int
  | [], _, h => by cases h; rfl
  | d :: ds, ns, h => by
    cases d with
    | int i =>
      unfold intsD at h
      cases e : intsD ds with
      | none => rw [e] at h; cases h
      | some ms =>
        rw [e] at h
        cases h
        rw [intsD_some e]
        rfl
    | _ => cases h
theorem intsD_map : ∀ ns : List Int, intsD (ns.map D.int) = some ns
  | [] => rfl
  | n :: ns => by
    show (intsD (ns.map D.int)).map (n :: ·) = _
    rw [intsD_map ns]
    rfl
/-- k put into an ascending list, once -/
def insI (k : Int) : List Int → List Int
  | [] => [k]
  | x :: r => if k < x then k :: x :: r else if k = x then x :: r else x :: insI k r
def sortI : List Int → List Int
  | [] => []
  | k :: r => insI k (sortI r)
theorem insI_mem {k y : Int} : ∀ {l : List Int}, y ∈ insI k l ↔ y = k ∨ y ∈ l
  | [] => by simp [insI]
  | x :: r => by
    unfold insI
    split
    · simp
    · split
      · rename_i h
        subst h
        simp
      · simp only [List.mem_cons, insI_mem (l := r)]
        constructor
        · rintro (h | h | h)
          · exact .inr (.inl h)
          · exact .inl h
          · exact .inr (.inr h)
        · rintro (h | h | h)
          · exact .inr (.inl h)
          · exact .inl h
          · exact .inr (.inr h)
theorem insI_sorted {k : Int} : ∀ {l : List Int}, l.Pairwise (· < ·) → (insI k l).Pairwise (· < ·)
  | [], _ => by simp [insI]
  | x :: r, h => by
    unfold insI
    rw [List.pairwise_cons] at h
    split
    · rename_i hk
      rw [List.pairwise_cons, List.pairwise_cons]
      refine ⟨fun y hy => ?_, h.1, h.2⟩
      rcases List.mem_cons.1 hy with q | q
      · rw [q]
        exact hk
      · exact Int.lt_trans hk (h.1 y q)
    · split
      · rw [List.pairwise_cons]
        exact h
      · rw [List.pairwise_cons]
        refine ⟨fun y hy => ?_, insI_sorted h.2⟩
        rcases insI_mem.1 hy with q | q
        · rw [q]
          omega
        · exact h.1 y q
theorem sortI_mem {y : Int} : ∀ {l : List Int}, y ∈ sortI l ↔ y ∈ l
  | [] => by simp [sortI]
  | k :: r => by rw [sortI, insI_mem, sortI_mem (l := r), List.mem_cons]
theorem sortI_sorted : ∀ l : List Int, (sortI l).Pairwise (· < ·)
  | [] => List.Pairwise.nil
  | k :: r => insI_sorted (sortI_sorted r)
/-- two ascending lists with the same members are one -/
theorem asc_eq : ∀ {a b : List Int}, a.Pairwise (· < ·) → b.Pairwise (· < ·) → (∀ k, k ∈ a ↔ k ∈ b) → a = b
  | [], [], _, _, _ => rfl
  | [], y :: b, _, _, h => by have := (h y).2 (by simp); cases this
  | x :: a, [], _, _, h => by have := (h x).1 (by simp); cases this
  | x :: a, y :: b, ha, hb, h => by
    rw [List.pairwise_cons] at ha hb
    have e : x = y := by
      rcases List.mem_cons.1 ((h x).1 (by simp)) with q | q
      · exact q
      · rcases List.mem_cons.1 ((h y).2 (by simp)) with q2 | q2
        · exact q2.symm
        · have := hb.1 x q
          have := ha.1 y q2
          omega
    subst e
    congr 1
    refine asc_eq ha.2 hb.2 fun k => ⟨fun hk => ?_, fun hk => ?_⟩
    · rcases List.mem_cons.1 ((h k).1 (by simp [hk])) with q | q
      · have := ha.1 k hk
        omega
      · exact q
    · rcases List.mem_cons.1 ((h k).2 (by simp [hk])) with q | q
      · have := hb.1 k hk
        omega
      · exact q
def oSortSet (d : D) : Option (List D) := match d with
  | .lst ds => match intsD ds with
    | some ns => if ns.length < 64 then some ((sortI ns).map D.int) else none
    | none => none
  | _ => none
/-! ### a dict that is written out, of one entry -/
theorem upd_upd {H : Hp} {p : Addr} {x y : HO} : upd (upd H p x) p y = upd H p y := by
  funext b
  by_cases e : b = p
  · subst e
    rw [upd_same, upd_same]
  · rw [upd_ne e, upd_ne e, upd_ne e]
theorem ev_dict1 {S : Type} {J : Jc S} {ρ : Dm.Env} (a b : Int) : Ev J (tDisp [(tC (.int a), tC (.int b))]) ρ (ret (.dct [(.inl a, .int b)])) := fun σ G s H L o Q q p hp => by
  refine ⟨upd_same, [(.inl a, .int b)], rfl, by show 1 ≤ 15; decide, ?_⟩
  rw [upd_upd]
  obtain ⟨sm, o2⟩ := o.lay (u := .dK (mergeK [] [(.inl a, .int b)])) hp
  exact q _ _ _ sm o2 (.dct upd_same)
/-! ### all, min, max of a list -/
def bolsD : List D → Option (List Bool)
  | [] => some []
  | .bl i :: ds => (bolsD ds).map (i :: ·)
  | _ :: _ => none
theorem bolsD_rp {Z : Wo} {G : Hp} : ∀ {ds : List D} {bs : List Bool} {vs : List V}, bolsD ds = some bs → RpAll Z G vs ds → vs = bs.map V.bl
  | [], _, _, h, r => by cases h; cases r; rfl
  | d :: ds, bs, vs, h, r => by
    cases d with
    | bl i =>
      unfold bolsD at h
      cases e : bolsD ds with
      | none => rw [e] at h; cases h
      | some ms =>
        rw [e] at h
        cases h
        cases r with
        | cons r1 r2 =>
          cases r1
          rw [bolsD_rp e r2]
          rfl
    | _ => cases h
def oAll (d : D) : Option D := match d with
  | .lst ds => (bolsD ds).map fun bs => .bl (bs.all id)
  | _ => none
theorem o1_all {S : Type} {J : Jc S} {ρ : Dm.Env} {K : PySem.W.Frag} : Op1 J ρ (rAll K) oAll := fun σ G s H L x d z o rx hz Q q => by
  cases d with
  | lst ds =>
    unfold oAll at hz
    dsimp only at hz
    cases e : bolsD ds with
    | none => rw [e] at hz; cases hz
    | some bs =>
      rw [e] at hz
      cases hz
      obtain ⟨a, vs, rfl, h1, r1⟩ := rX.lst o rx
      rw [bolsD_rp e r1] at h1
      exact ⟨a, bs, rfl, sq_l h1, q _ G H (Same.refl _) o (.bl _)⟩
  | _ => cases hz
def leastI : Int → List Int → Int
  | m, [] => m
  | m, x :: r => leastI (if x < m then x else m) r
theorem leastI_le : ∀ (m : Int) (l : List Int), leastI m l ≤ m ∧ ∀ y ∈ l, leastI m l ≤ y
  | m, [] => ⟨Int.le_refl _, fun y h => nomatch h⟩
  | m, x :: r => by
    have h := leastI_le (if x < m then x else m) r
    unfold leastI
    by_cases c : x < m
    · rw [if_pos c] at h ⊢
      exact ⟨by omega, fun y hy => (List.mem_cons.1 hy).elim (fun e => by rw [e]; exact h.1) (h.2 y)⟩
    · rw [if_neg c] at h ⊢
      exact ⟨h.1, fun y hy => (List.mem_cons.1 hy).elim (fun e => by rw [e]; omega) (h.2 y)⟩
theorem leastI_mem : ∀ (m : Int) (l : List Int), leastI m l ∈ m :: l
  | m, [] => by simp [leastI]
  | m, x :: r => by
    have h := leastI_mem (if x < m then x else m) r
    unfold leastI
    by_cases c : x < m
    · rw [if_pos c] at h ⊢
      exact List.mem_cons_of_mem _ h
    · rw [if_neg c] at h ⊢
      rcases List.mem_cons.1 h with q | q
      · rw [q]
        simp
      · exact List.mem_cons_of_mem _ (List.mem_cons_of_mem _ q)
def oMinL (d : D) : Option D := match d with
  | .lst ds => match intsD ds with
    | some (x :: r) => some (.int (leastI x r))
    | _ => none
  | _ => none
theorem o1_minL {S : Type} {J : Jc S} {ρ : Dm.Env} {K : PySem.W.Frag} : Op1 J ρ (rMin K) oMinL := fun σ G s H L x d z o rx hz Q q => by
  cases d with
  | lst ds =>
    unfold oMinL at hz
    dsimp only at hz
    cases e : intsD ds with
    | none => rw [e] at hz; cases hz
    | some ns =>
      rw [e] at hz
      cases ns with
      | nil => cases hz
      | cons n r =>
        cases hz
        obtain ⟨a, vs, rfl, h1, r1⟩ := rX.lst o rx
        rw [intsD_some e] at r1
        rw [ints_of _ r1] at h1
        refine ⟨a, n :: r, rfl, sq_l h1, Nat.succ_pos _, fun m hm hle => ?_⟩
        have em : m = leastI n r := by
          have h2 := hle _ (leastI_mem n r)
          have h3 := leastI_le n r
          rcases List.mem_cons.1 hm with y | y
          · subst y
            have := h3.1
            omega
          · have := h3.2 m y
            omega
        rw [em]
        exact q _ G H (Same.refl _) o (.int _)
  | _ => cases hz
section
variable {X : Cx} {K : PySem.W.Frag} {w : World}
theorem cr_allK (h : X.K = K) (hc : X.calm = true) : CallR X (.builtin "all") (rAll K) := h ▸ cr_all hc
theorem cr_minK (h : X.K = K) (hc : X.calm = true) : CallR X (.builtin "min") (rMin K) := h ▸ cr_min hc
end
end Dm

set_option Elab.async false
set_option linter.all false
set_option maxRecDepth 100000
set_option maxHeartbeats 2000000
namespace Dm
open PySem PySem.Spec PyProof.Rows L2
section
variable {S : Type} {J : Jc S} {ρ : Dm.Env}
theorem el_sortset {K : PySem.W.Frag} {w : World} {te : TE} {m : MS S D} (h : EvX J te ρ m) : EvL J (tCB (rSortedSet w) (tCons (tCB (rSetI K w) (tCons te tNil)) tNil)) ρ (bnd m fun d => lft (oSortSet d)) := fun σ G s H L o Q q =>
  h.runL o q fun d x G1 s1 H1 e1 o1 rx q1 => PstL.lft q1 fun es he q2 => by
    cases d with
    | lst ds =>
      unfold oSortSet at he
      dsimp only at he
      cases e2 : intsD ds with
      | none => rw [e2] at he; cases he
      | some ns =>
        rw [e2] at he
        dsimp only at he
        obtain ⟨hn, rfl⟩ := ite_some he
        have ed := intsD_some e2
        obtain ⟨a, vs, rfl, h1, r1⟩ := rX.lst o1 rx
        rw [ed] at r1
        have ev : vs = ns.map V.int := ints_of ns r1
        subst ev
        refine ⟨a, ns, rfl, sq_l h1, by omega, fun p c hp hc => ?_⟩
        obtain ⟨sm, o2⟩ := o1.lay (u := SetO w p (fun j => decide (j ∈ ns)) c) hp
        refine ⟨p, _, c, rfl, upd_same, by omega, fun ms p2 hs hm hl hp2 => ?_⟩
        have em : ms = sortI ns := asc_eq hs (sortI_sorted ns) fun k => by
          rw [hm k, sortI_mem]
          simp
        subst em
        exact q2 p2 _ _ _ sm (o2.nw hp2) (ints_rp _)
    | _ => cases he
end
section
variable {X : Cx} {K : PySem.W.Frag} {w : World}
theorem cr_setIK (h : X.K = K) (hw : X.w = w) (hc : X.calm = true) : CallR X (.type "set") (rSetI K w) := h ▸ hw ▸ cr_setI hc
theorem cr_sortedSetK (hw : X.w = w) (hc : X.calm = true) : CallR X (.builtin "sorted") (rSortedSet w) := hw ▸ cr_sortedSet hc
end
end Dm

set_option Elab.async false
set_option linter.all false
set_option maxRecDepth 100000
set_option maxHeartbeats 2000000
namespace Dm
open PySem PySem.Spec PyProof.Rows L2
/-! ### more mathematics of mirrors -/
theorem mk0 : mkL [] = some [] := rfl
theorem mk1 (a : D) : mkL [a] = some [a] := rfl
theorem mk2 (a b : D) : mkL [a, b] = some [a, b] := rfl
theorem mk3 (a b c : D) : mkL [a, b, c] = some [a, b, c] := rfl
theorem mk4 (a b c d : D) : mkL [a, b, c, d] = some [a, b, c, d] := rfl
theorem mk5 (a b c d e : D) : mkL [a, b, c, d, e] = some [a, b, c, d, e] := rfl
theorem mk6 (a b c d e f : D) : mkL [a, b, c, d, e, f] = some [a, b, c, d, e, f] := rfl
theorem mk7 (a b c d e f g : D) : mkL [a, b, c, d, e, f, g] = some [a, b, c, d, e, f, g] := rfl
theorem mk8 (a b c d e f g h : D) : mkL [a, b, c, d, e, f, g, h] = some [a, b, c, d, e, f, g, h] := rfl
theorem mk9 (a b c d e f g h i : D) : mkL [a, b, c, d, e, f, g, h, i] = some [a, b, c, d, e, f, g, h, i] := rfl
theorem tk_ix {cells : List Int} {P : D → Prop} {ds : List D} {k : Int} (h0 : 0 ≤ k) (h1 : k < ds.length) (h : ∀ d ∈ ds, P d) : Tk cells (lft (oIx (.lst ds) (.int k))) P := by
  obtain ⟨x, hx, e⟩ := atI_mem h0 h1
  exact tk_lft e (h x hx)
/-- a drawn thing -/
def Itm (d : D) : Prop := pln d = true ∧ bulkD d ≤ 50 ∧ depD d ≤ 2
theorem itm_int {i : Int} (h : i.natAbs < 1000000000000000000000000000000) : Itm (.int i) := ⟨decide_eq_true h, by simp [bulkD], by simp [depD]⟩
theorem itm_cl {d : D} (h : ∃ k, d = .int k ∧ 0 ≤ k ∧ k < 100) : Itm d := by
  obtain ⟨k, rfl, h0, h1⟩ := h
  exact itm_int (by omega)
theorem forF_all {S τ : Type} {un : D → Option τ} {f : τ → Unit → MS S (Fl Unit Unit)} : ∀ {ds : List D}, (∀ d ∈ ds, ∃ t, un d = some t ∧ f t () = ret (.nx ())) → forF un f ds () = ret (.nx ())
  | [], _ => rfl
  | d :: ds, h => by
    obtain ⟨t, e, ht⟩ := h d (by simp)
    rw [forF_nx e ht]
    exact forF_all fun x hx => h x (by simp [hx])
theorem rgD_cons (n : Int) (k : Nat) : rgD n (k + 1) = .int n :: rgD (n + 1) k := by
  unfold rgD
  rw [List.range_succ_eq_map, List.map_cons, List.map_map]
  congr 1
  · show D.int (n + 0) = _
    rw [Int.add_zero]
  · refine List.map_congr_left fun i _ => ?_
    show D.int (n + ((i + 1 : Nat) : Int)) = D.int (n + 1 + (i : Int))
    congr 1
    omega
/-- a search by places -/
theorem forF_rgHit {S β : Type} {w : D → Option β} {g : Nat → β → D} {f : D → Unit → MS S (Fl Unit Unit)} : ∀ {ds : List D} {n : Nat}, (∀ (i : Nat) (d : D), ds[i]? = some d → f (.int ((n + i : Nat) : Int)) () = ret (hitL (g (n + i)) (w d))) → forF un1 f (rgD (n : Int) ds.length) () = ret (hitF g (fstW w n ds))
  | [], _, _ => rfl
  | d :: ds, n, h => by
    rw [List.length_cons, rgD_cons]
    unfold forF
    rw [show un1 (.int (n : Int)) = some (.int (n : Int)) from rfl, lft_some, bnd_ret, show f (.int (n : Int)) () = ret (hitL (g n) (w d)) from h 0 d rfl]
    unfold fstW
    cases hw : w d with
    | none =>
      have ih := forF_rgHit (w := w) (g := g) (f := f) (ds := ds) (n := n + 1) fun i d hd => by
        have := h (i + 1) d hd
        rw [show n + (i + 1) = n + 1 + i by omega] at this
        exact this
      exact ih
    | some x => rfl
theorem fmt_nat {n : Nat} (h : n < 1000) : fmtD (.int (n : Int)) = true := by
  show sld (decide ((0 : Int) ≤ (n : Int) ∧ (n : Int) < 10 ^ 18)) = true
  rw [sld_eq]
  exact decide_eq_true ⟨by omega, by omega⟩
theorem flts_ints : ∀ ns : List Int, flts (ns.map D.int) = some (ns.map V.int)
  | [] => rfl
  | n :: ns => by
    show (match flt (.int n), flts (ns.map D.int) with | some a, some b => some (a :: b) | _, _ => none) = _
    rw [flts_ints ns]
    rfl
theorem inV_ints (i : Int) : ∀ ns : List Int, inV (.int i) (ns.map V.int) = decide (i ∈ ns)
  | [] => rfl
  | n :: ns => by
    show ((n == i) || inV (.int i) (ns.map V.int)) = _
    rw [inV_ints i ns]
    by_cases h : n = i
    · subst h
      simp
    · have h2 : i ≠ n := fun e => h e.symm
      rw [show (n == i) = false from by simp [h], Bool.false_or]
      simp [h2]
theorem mem_ints {i : Int} {ns : List Int} {d : D} (hd : items d = some (ns.map D.int)) : memD (.int i) d = some (decide (i ∈ ns)) := by
  unfold memD
  rw [hd]
  show (match some (V.int i), (flts (ns.map D.int)) with | some v, some vs => some (inV v vs) | _, _ => none) = _
  rw [flts_ints]
  dsimp only
  rw [inV_ints]
theorem oIn_ints {i : Int} {ns : List Int} {d : D} (hd : items d = some (ns.map D.int)) : oIn (.int i) d = some (.bl (decide (i ∈ ns))) := by
  unfold oIn
  rw [mem_ints hd]
  rfl
theorem oNin_ints {i : Int} {ns : List Int} {d : D} (hd : items d = some (ns.map D.int)) : oNin (.int i) d = some (.bl (!decide (i ∈ ns))) := by
  unfold oNin
  rw [mem_ints hd]
  rfl
/-- the numbers below n with p, as a comprehension makes them -/
theorem lc_range {S : Type} {c : D → MS S Bool} {f : D → MS S D} {n : Nat} {p : Nat → Bool} {g : Nat → D} (hc : ∀ i, i < n → c (.int (i : Int)) = ret (p i)) (hf : ∀ i, i < n → p i = true → f (.int (i : Int)) = ret (g i)) :
    lcM un1 c f (rgD 0 n) = ret (((List.range n).filter p).map g) := by
  refine lcM_retI (e := fun (i : Nat) => D.int (i : Int)) ?_ (fun t ht => hc t (List.mem_range.1 ht)) (fun t ht => hf t (List.mem_range.1 ht))
  unfold rgD
  rw [List.map_map]
  refine List.map_congr_left fun i _ => ?_
  show some (D.int (0 + (i : Int))) = _
  rw [Int.zero_add]
theorem try_ret {S β : Type} {n : Nat} {m : MS S β} {v : β} {hs : List (Nat × (List D → MS S β))} (h : m = ret v) : tryM n m hs = ret v := by
  rw [h]
  rfl
theorem ints_all : ∀ {us : List D}, (∀ d ∈ us, ∃ k, d = .int k) → ∃ ns : List Int, us = ns.map D.int
  | [], _ => ⟨[], rfl⟩
  | d :: us, h => by
    obtain ⟨k, rfl⟩ := h d (by simp)
    obtain ⟨ns, e⟩ := ints_all (us := us) fun x hx => h x (by simp [hx])
    exact ⟨k :: ns, by rw [e]; rfl⟩
theorem fst_hit {β : Type} {w : D → Option β} {n : Nat} {d : D} {ds : List D} {x : β} (h : w d = some x) : fstW w n (d :: ds) = some (n, x) := by
  unfold fstW
  rw [h]
theorem fst_miss {β : Type} {w : D → Option β} {n : Nat} {d : D} {ds : List D} (h : w d = none) : fstW w n (d :: ds) = fstW w (n + 1) ds := by
  rw [fstW, h]
end Dm

set_option Elab.async false
set_option linter.all false
set_option maxRecDepth 100000
set_option maxHeartbeats 2000000
namespace Dm
open PySem PySem.Spec PyProof.Rows L2
/-! ### an own list of own lists -/
section
variable {Z : Wo} {G G' H : Hp} {L B : Led}
theorem QAll.length : ∀ {vs : List V} {dss : List (List D)} {L : Led}, QAll Z G vs dss L → vs.length = dss.length
  | _, _, _, .nil => rfl
  | _, _, _, .cons _ q => congrArg Nat.succ q.length
theorem QAll.one {b : Addr} {ys : List V} {es : List D} (r : RpAll Z G ys es) : ∀ {xs : List V} {dss : List (List D)} {Li : Led}, QAll Z G xs dss Li → QAll Z G (xs ++ [.ref b]) (dss ++ [es]) (Li ++ [(b, .lst ys)])
  | _, _, _, .nil => .cons r .nil
  | _, _, _, .cons q s => .cons q (QAll.one r s)
theorem QAll.get : ∀ {xs : List V} {dss : List (List D)} {Li : Led} {j : Nat} {es : List D}, QAll Z G xs dss Li → dss[j]? = some es → ∃ b ys Li1 Li2, xs[j]? = some (.ref b) ∧ Li = Li1 ++ (b, .lst ys) :: Li2 ∧ RpAll Z G ys es ∧
    ∀ G' zs fs, Same G G' → RpAll Z G' zs fs → QAll Z G' xs (dss.set j fs) (Li1 ++ (b, .lst zs) :: Li2)
  | _, _, _, _, _, .nil, h => by simp at h
  | _, _, _, 0, _, .cons r q, h => by
    simp at h
    subst h
    exact ⟨_, _, [], _, rfl, rfl, r, fun G' zs fs s r2 => .cons r2 (q.mono s)⟩
  | _, _, _, j + 1, _, .cons (b := b0) (ys := ys0) r q, h => by
    obtain ⟨b, ys, Li1, Li2, a1, a2, a3, a4⟩ := q.get (j := j) (by simpa using h)
    exact ⟨b, ys, (b0, .lst ys0) :: Li1, Li2, by simpa using a1, by rw [a2]; rfl, a3, fun G' zs fs s r2 => .cons (r.mono s) (a4 G' zs fs s r2)⟩
theorem QAll.frz {L' : Led} : ∀ {xs : List V} {dss : List (List D)} {Li : Led} {G : Hp}, QAll Z G xs dss Li → Wd G (Li ++ L') H → ∃ G', Same G G' ∧ Wd G' L' H ∧ RpAll Z G' xs (dss.map D.lst)
  | _, _, _, _, .nil, w => ⟨_, Same.refl _, w, .nil⟩
  | _, _, _, _, .cons r q, w => by
    obtain ⟨G', s2, w2, r2⟩ := QAll.frz (q.mono (Wd.frzS w)) (Wd.frz w)
    exact ⟨G', (Wd.frzS w).trans s2, w2, .cons (.lst (s2 _ _ upd_same) ((r.mono (Wd.frzS w)).mono s2)) r2⟩
theorem Cells.ownQ : ∀ {e : Env} {σ : Sl} {L : Led} {i : Nat} {dss : List (List D)}, Cells Z G e σ L → e[i]? = some (.Q dss) →
    ∃ (p : Addr) (xs : List V) (Li L1 L2 : Led), σ[i]? = some (some (.ref p)) ∧ L = L1 ++ ((p, .lst xs) :: (Li ++ L2)) ∧ QAll Z G xs dss Li ∧
      (∀ G' ys es Li', Same G G' → QAll Z G' ys es Li' → Cells Z G' (e.set i (.Q es)) σ (L1 ++ ((p, .lst ys) :: (Li' ++ L2)))) ∧
      (∀ G' ys ds, Same G G' → RpAll Z G' ys ds → Cells Z G' (e.set i (.O ds)) σ (L1 ++ ((p, .lst ys) :: L2)))
  | _, _, _, _, _, .nil, h => by simp at h
  | _, _, _, 0, _, .U c, h => by simp at h
  | _, _, _, 0, _, .P r c, h => by simp at h
  | _, _, _, 0, _, .O r c, h => by simp at h
  | _, _, _, 0, _, .A f c, h => by simp at h
  | _, _, _, 0, _, .Q q c, h => by
    simp at h
    subst h
    exact ⟨_, _, _, [], _, rfl, rfl, q, fun G' ys es Li' s q' => .Q q' (c.mono s), fun G' ys ds s r => .O r (c.mono s)⟩
  | _, _, _, i + 1, _, .U c, h => by
    obtain ⟨p, xs, Li, L1, L2, a1, a2, a3, a4, a5⟩ := c.ownQ (i := i) (by simpa using h)
    exact ⟨p, xs, Li, L1, L2, by simpa using a1, a2, a3, fun G' ys es Li' s q => .U (a4 G' ys es Li' s q), fun G' ys ds s r => .U (a5 G' ys ds s r)⟩
  | _, _, _, i + 1, _, .P r c, h => by
    obtain ⟨p, xs, Li, L1, L2, a1, a2, a3, a4, a5⟩ := c.ownQ (i := i) (by simpa using h)
    exact ⟨p, xs, Li, L1, L2, by simpa using a1, a2, a3, fun G' ys es Li' s q => .P (r.mono s) (a4 G' ys es Li' s q), fun G' ys ds s r2 => .P (r.mono s) (a5 G' ys ds s r2)⟩
  | _, _, _, i + 1, _, .O (p := p0) (xs := xs0) r c, h => by
    obtain ⟨p, xs, Li, L1, L2, a1, a2, a3, a4, a5⟩ := c.ownQ (i := i) (by simpa using h)
    exact ⟨p, xs, Li, (p0, .lst xs0) :: L1, L2, by simpa using a1, by rw [a2]; rfl, a3, fun G' ys es Li' s q => .O (r.mono s) (a4 G' ys es Li' s q), fun G' ys ds s r2 => .O (r.mono s) (a5 G' ys ds s r2)⟩
  | _, _, _, i + 1, _, .A f c, h => by
    obtain ⟨p, xs, Li, L1, L2, a1, a2, a3, a4, a5⟩ := c.ownQ (i := i) (by simpa using h)
    exact ⟨p, xs, Li, L1, L2, by simpa using a1, a2, a3, fun G' ys es Li' s q => .A (fun G2 s2 => f G2 (s.trans s2)) (a4 G' ys es Li' s q), fun G' ys ds s r2 => .A (fun G2 s2 => f G2 (s.trans s2)) (a5 G' ys ds s r2)⟩
  | _, _, _, i + 1, _, .Q (p := p0) (xs := xs0) (Li := Li0) f c, h => by
    obtain ⟨p, xs, Li, L1, L2, a1, a2, a3, a4, a5⟩ := c.ownQ (i := i) (by simpa using h)
    refine ⟨p, xs, Li, (p0, .lst xs0) :: (Li0 ++ L1), L2, by simpa using a1, by rw [a2, List.cons_append, List.append_assoc], a3, fun G' ys es Li' s q => ?_, fun G' ys ds s r2 => ?_⟩
    · rw [List.cons_append, List.append_assoc]
      exact .Q (f.mono s) (a4 G' ys es Li' s q)
    · rw [List.cons_append, List.append_assoc]
      exact .Q (f.mono s) (a5 G' ys ds s r2)
theorem Cells.setQ {p : Addr} {xs : List V} {dss : List (List D)} {Li : Led} (r : QAll Z G xs dss Li) : ∀ {e : Env} {σ : Sl} {L : Led} (i : Nat), Cells Z G e σ L → i < e.length → ∃ L' L1 L2, List.Sublist L' L ∧ L' = L1 ++ L2 ∧ Cells Z G (e.set i (.Q dss)) (σ.set i (some (.ref p))) (L1 ++ ((p, .lst xs) :: (Li ++ L2)))
  | _, _, _, _, .nil, h => absurd h (Nat.not_lt_zero _)
  | _, _, _, 0, .U c, _ => ⟨_, [], _, List.Sublist.refl _, rfl, .Q r c⟩
  | _, _, _, 0, .P q c, _ => ⟨_, [], _, List.Sublist.refl _, rfl, .Q r c⟩
  | _, _, _, 0, .O q c, _ => ⟨_, [], _, List.sublist_cons_self _ _, rfl, .Q r c⟩
  | _, _, _, 0, .A f c, _ => ⟨_, [], _, List.Sublist.refl _, rfl, .Q r c⟩
  | _, _, _, 0, .Q q c, _ => ⟨_, [], _, (List.sublist_append_right _ _).cons _, rfl, .Q r c⟩
  | _, _, _, i + 1, .U c, h => by
    obtain ⟨L', L1, L2, s, e, c'⟩ := c.setQ (p := p) r i (Nat.lt_of_succ_lt_succ h)
    exact ⟨L', L1, L2, s, e, .U c'⟩
  | _, _, _, i + 1, .P q c, h => by
    obtain ⟨L', L1, L2, s, e, c'⟩ := c.setQ (p := p) r i (Nat.lt_of_succ_lt_succ h)
    exact ⟨L', L1, L2, s, e, .P q c'⟩
  | _, _, _, i + 1, .O (p := p0) (xs := xs0) q c, h => by
    obtain ⟨L', L1, L2, s, e, c'⟩ := c.setQ (p := p) r i (Nat.lt_of_succ_lt_succ h)
    exact ⟨_, (p0, .lst xs0) :: L1, L2, s.cons₂ _, by rw [e]; rfl, .O q c'⟩
  | _, _, _, i + 1, .A f c, h => by
    obtain ⟨L', L1, L2, s, e, c'⟩ := c.setQ (p := p) r i (Nat.lt_of_succ_lt_succ h)
    exact ⟨L', L1, L2, s, e, .A f c'⟩
  | _, _, _, i + 1, .Q (p := p0) (xs := xs0) (Li := Li0) q c, h => by
    obtain ⟨L', L1, L2, s, e, c'⟩ := c.setQ (p := p) r i (Nat.lt_of_succ_lt_succ h)
    refine ⟨_, (p0, .lst xs0) :: (Li0 ++ L1), L2, ((List.Sublist.refl _).append s).cons₂ _, by rw [e, List.cons_append, List.append_assoc], ?_⟩
    rw [List.cons_append, List.append_assoc]
    exact .Q q c'
end
section
variable {S : Type} {J : Jc S} {α β γ δ τ : Type} {ρ esc : Env} {σ : Sl} {G G' H : Hp} {L : Led} {T : Ends → Prop} {E : Ends}
def Jc.addL (J : Jc S) (l : Led) : Jc S where
  Z := J.Z
  lay := fun s => l ++ J.lay s
  X := fun _ _ _ _ => False
theorem HandJ.addL {J : Jc Hd} {p c : Addr} {l : Led} (h : HandJ J p c) : HandJ (J.addL l) p c := by
  obtain ⟨L1, L2, e⟩ := h
  exact ⟨l ++ L1, L2, fun hd => by
    show l ++ J.lay hd = _
    rw [e, List.append_assoc]⟩
def NwQ (J : Jc S) (ρ : Env) (G : Hp) (σ : Sl) (L : Led) (s : S) (H : Hp) (p : Addr) (xs : List V) (Li : Led) : Prop := Cells J.Z G ρ σ L ∧ Wd G ((p, .lst xs) :: (Li ++ (L ++ J.lay s))) H
def PstQ (J : Jc S) (ρ : Env) (σ : Sl) (L : Led) (G : Hp) (Q : VK) : Rs S (List (List D)) → Prop
  | .stuck => False
  | .ex c fs s => Out J ρ σ L G c fs s
  | .ok ds s => ∀ p xs Li G' H', Same G G' → NwQ J ρ G' σ L s H' p xs Li → QAll J.Z G' xs ds Li → Q (.ref p) H'
def EvQ (J : Jc S) (te : TE) (ρ : Env) (m : MS S (List (List D))) : Prop := ∀ σ G s H L, Ok J.Z (J.lay s) ρ G σ L H → ∀ Q, PstQ J ρ σ L G Q (m s) → te σ H Q
theorem PstQ.mono {Q : VK} (e : Same G G') : ∀ {r : Rs S (List (List D))}, PstQ J ρ σ L G Q r → PstQ J ρ σ L G' Q r
  | .stuck, h => h
  | .ex _ _ _, h => Out.mono e h
  | .ok _ _, h => fun p xs Li G2 H2 a c => h p xs Li G2 H2 (e.trans a) c
def lcQ (un : D → Option τ) (f : τ → MS S (List D)) : List D → MS S (List (List D))
  | [] => ret []
  | d :: ds => bnd (lft (un d)) fun t => bnd (nex (f t)) fun y => bnd (lcQ un f ds) fun ys => ret (y :: ys)
theorem EvI.runQ {wi : TI} {m : MS S (List D)} {k : List D → MS S (List (List D))} {s : S} {Q : VK} (h1 : EvI J wi ρ m) (o : Ok J.Z (J.lay s) ρ G σ L H) (h : PstQ J ρ σ L G Q (bnd m k s)) {R : It → Hp → Prop}
    (kk : ∀ ds I G' s' H', Same G G' → Ok J.Z (J.lay s') ρ G' σ L H' → Walk I ds.length (fun H => Same G' H) (YD J.Z G' ds) → PstQ J ρ σ L G' Q (k ds s') → R I H') : wi σ H R := by
  refine h1 σ G s H L o _ ?_
  have h' : PstQ J ρ σ L G Q ((m s).go k) := h
  cases e : m s with
  | stuck =>
    rw [e] at h'
    exact h'
  | ex c fs s' =>
    rw [e] at h'
    exact h'
  | ok a s' =>
    rw [e] at h'
    exact fun I G' H' sm o' wk => kk a I G' s' H' sm o' wk (PstQ.mono sm h')
theorem EvL.runC {l : Led} {ρ' : Env} {σ' : Sl} {L' : Led} {te : TE} {Q : VK} {m : MS S (List D)} {k : List D → MS S (List (List D))} {s : S} (h1 : EvL (J.addL l) te ρ' m)
    (o : Ok J.Z (l ++ J.lay s) ρ' G σ' L' H) (h : PstQ J ρ σ L G Q (bnd (nex m) k s)) {P : VK}
    (kk : ∀ a p xs G' s' H', Same G G' → Nw (J.addL l) ρ' G' σ' L' s' H' p xs → RpAll J.Z G' xs a → PstQ J ρ σ L G' Q (k a s') → P (.ref p) H') : te σ' H P := by
  refine h1 σ' G s H L' o _ ?_
  have h' : PstQ J ρ σ L G Q ((nex m s).go k) := h
  unfold nex at h'
  cases e : m s with
  | stuck =>
    rw [e] at h'
    exact h'
  | ex c fs s' =>
    rw [e] at h'
    exact h'.elim
  | ok a s' =>
    rw [e] at h'
    exact fun p xs G' H' sm n r => kk a p xs G' s' H' sm n r (PstQ.mono sm h')
/-- [a new list for ..]: an own list of own lists -/
theorem eq_lc {wi : TI} {g : TG} {te : TE} {un : D → Option τ} {ex : τ → Env → Env} {js vs : List Nat} {m : MS S (List D)} {f : τ → MS S (List D)} (h : EvI J wi ρ m) (hg : ∀ l, Tg (J.addL l) g un ex js)
    (he : ∀ t l, EvL (J.addL l) te (ex t (wipeE ρ vs)) (f t)) (hj : ∀ j ∈ js, j ∈ vs := by decide) (hO : ∀ v ∈ vs, noO ρ[v]? = true := by decide) :
    EvQ J (tLc wi g tYes te vs) ρ (bnd m fun ds => bnd (lft (mkL ds)) fun ds => lcQ un f ds) := fun σ G s H L o Q q =>
  h.runQ o q fun ds0 I G1 s1 H1 e1 o1 wk q1 Dp hD => by
    cases hds : mkL ds0 with
    | none =>
      rw [hds] at q1
      exact q1.elim
    | some ds =>
    rw [hds] at q1
    obtain ⟨rfl, hlen⟩ := mkL_some hds
    refine lc_it wk (fun i H => ∃ as xs Li G2 s2, Same G1 G2 ∧ Cells J.Z G2 ρ σ L ∧ Wd G2 ((Dp, .lst xs) :: (Li ++ (L ++ J.lay s2))) H ∧ QAll J.Z G2 xs as Li ∧ as.length ≤ i ∧ PstQ J ρ σ L G2 Q (bnd (lcQ un f (ds.drop i)) (fun ys => ret (as ++ ys)) s2))
      ⟨[], [], [], G1, s1, Same.refl _, o1.1, o1.2.keep hD, .nil, Nat.le_refl _, ?_⟩ (fun i H _ ⟨as, xs, Li, G2, s2, sm, _, w, _⟩ => sm.trans w.same) (fun i x H2 H3 hi p y => ?_) fun H2 p => ?_
    · have e0 : (bnd (lcQ un f (ds.drop 0)) fun ys => ret ([] ++ ys)) = lcQ un f ds := by
        show (bnd (lcQ un f ds) fun ys => ret ys) = _
        exact bnd_id _
      rw [e0]
      exact q1
    · obtain ⟨as, xs, Li, G2, s2, sm2, c2, w2, r2, hle, q2⟩ := p
      have hl : i < ds.length := hi
      have o2 : Ok J.Z (((Dp, .lst xs) :: Li) ++ J.lay s2) ρ G2 σ L H2 := ⟨c2, w2.perm (List.perm_append_comm_assoc L ((Dp, .lst xs) :: Li) (J.lay s2))⟩
      obtain ⟨d, G3, hd, sm3, o3, r⟩ := y.ok sm2 o2
      have ed : ds.drop i = d :: ds.drop (i + 1) := by
        rw [List.drop_eq_getElem_cons hl]
        rw [List.getElem?_eq_getElem hl] at hd
        cases hd
        rfl
      rw [ed] at q2
      cases hu : un d with
      | none =>
        unfold lcQ at q2
        rw [hu] at q2
        exact q2.elim
      | some t =>
        unfold lcQ at q2
        rw [hu] at q2
        have q3 : PstQ J ρ σ L G2 Q (bnd (bnd (nex (f t)) fun y => bnd (lcQ un f (ds.drop (i + 1))) fun ys => ret (y :: ys)) (fun ys => ret (as ++ ys)) s2) := q2
        rw [bnd_bnd] at q3
        have ow : Ok (J.addL ((Dp, .lst xs) :: Li)).Z ((J.addL ((Dp, .lst xs) :: Li)).lay s2) (wipeE ρ vs) G3 (L2.wipe σ vs) L H3 := ⟨o3.1.wipe hO, o3.2⟩
        refine (hg ((Dp, .lst xs) :: Li)).go d t _ x _ G3 s2 H3 L hu ow r _ fun σ4 L4 o4 hlen4 hsame hL4 => ?_
        have eL : L4 = L := hL4 fun j hjj => wipeE_O (hO j (hj j hjj)) vs
        subst eL
        refine ⟨wipe_back hj hlen4 hsame, ?_⟩
        refine (he t ((Dp, .lst xs) :: Li)).runC (ρ := ρ) (σ := σ) (L := L4) o4 (PstQ.mono sm3 q3) fun es p' ys G6 s6 H6 sm6 n6 ry q6 => ?_
        have w6 : Wd G6 ((Dp, .lst xs) :: ((Li ++ [(p', .lst ys)]) ++ (L4 ++ J.lay s6))) H6 := n6.2.perm (by
          rw [List.append_assoc, List.cons_append, List.nil_append]
          refine List.Perm.trans (List.Perm.cons _ List.perm_middle) ?_
          refine List.Perm.trans (List.Perm.swap _ _ _) ?_
          exact List.Perm.cons _ (List.perm_append_comm_assoc ((Dp, HO.lst xs) :: Li) L4 (J.lay s6)))
        have sm36 := sm3.trans sm6
        refine ⟨xs, (w6.own (Dp, .lst xs) List.mem_cons_self).1, long_lt (by rw [r2.length]; omega), as ++ [es], xs ++ [V.ref p'], Li ++ [(p', HO.lst ys)], G6, s6, sm2.trans sm36, c2.mono sm36, Wd.put (L1 := []) (o' := HO.lst (xs ++ [V.ref p'])) w6, QAll.one ry (r2.mono sm36), by rw [List.length_append]; exact Nat.succ_le_succ hle, ?_⟩
        rw [bnd_bnd] at q6
        have e9 : (bnd (lcQ un f (ds.drop (i + 1))) fun ys => bnd (ret (es :: ys)) fun ys => ret (as ++ ys)) = bnd (lcQ un f (ds.drop (i + 1))) fun ys => (ret (as ++ [es] ++ ys) : MS S (List (List D))) := by
          congr 1
          funext ys
          show ret (as ++ es :: ys) = _
          rw [List.append_assoc]
          rfl
        rw [e9] at q6
        exact q6
    · obtain ⟨as, xs, Li, G2, s2, sm2, c2, w2, r2, hle, q2⟩ := p
      rw [List.drop_length] at q2
      have q3 : PstQ J ρ σ L G2 Q (.ok (as ++ []) s2) := q2
      rw [List.append_nil] at q3
      exact q3 Dp xs Li G2 H2 (Same.refl _) ⟨c2, w2⟩ r2
theorem NwQ.set {s : S} {p : Addr} {xs : List V} {Li : Led} {dss : List (List D)} {i : Nat} (n : NwQ J ρ G σ L s H p xs Li) (r : QAll J.Z G xs dss Li) (hi : i < ρ.length) : ∃ L', Ok J.Z (J.lay s) (ρ.set i (.Q dss)) G (σ.set i (some (.ref p))) L' H := by
  obtain ⟨c, w⟩ := n
  obtain ⟨L', L1, L2, sb, e, c'⟩ := c.setQ (p := p) r i hi
  refine ⟨_, c', ?_⟩
  have w1 := w.sub (((List.Sublist.refl Li).append (sb.append (List.Sublist.refl (J.lay s)))).cons₂ (p, HO.lst xs))
  refine w1.perm ?_
  rw [e, List.append_assoc, List.append_assoc, List.cons_append, List.append_assoc]
  exact List.perm_append_comm_assoc L1 ((p, HO.lst xs) :: Li) (L2 ++ J.lay s)
theorem EvQ.runS {t : TE} {m : MS S (List (List D))} {k : List (List D) → MS S β} {s : S} {fin : β → Fin} (h1 : EvQ J t ρ m) (o : Ok J.Z (J.lay s) ρ G σ L H) (w : Wk ρ esc)
    (h : Pss J esc G E fin (bnd m k s)) {P : V → Hp → Prop} (kk : ∀ ds p xs Li G' s' H', Same G G' → NwQ J ρ G' σ L s' H' p xs Li → QAll J.Z G' xs ds Li → Pss J esc G' E fin (k ds s') → P (.ref p) H') : t σ H P := by
  refine h1 σ G s H L o _ ?_
  have h' : Pss J esc G E fin ((m s).go k) := h
  cases e : m s with
  | stuck =>
    rw [e] at h'
    exact h'
  | ex c fs s' =>
    rw [e] at h'
    exact h'.out w
  | ok a s' =>
    rw [e] at h'
    exact fun p xs Li G' H' sm n r => kk a p xs Li G' s' H' sm n r (Pss.mono sm h')
theorem sv_asgQ {te : TE} {i : Nat} {m : MS S (List (List D))} (h : EvQ J te ρ m) (w : Wk ρ esc) (hi : i < ρ.length := by decide) : Sv J Ta esc (tAsg te (gName i)) ρ m (fun dss => .nx (ρ.set i (.Q dss))) := fun σ G s H L o E _ q => by
  refine h.runS (k := ret) o w (by rw [bnd_id]; exact q) fun ds p xs Li G1 s1 H1 e1 n r q1 => ?_
  obtain ⟨L', o2⟩ := n.set r hi
  exact q1 _ G1 H1 L' (Same.refl _) o2
/-- the inner lists stay as they are from now on -/
theorem Ok.frzQ {B : Led} {i : Nat} {dss : List (List D)} (o : Ok J.Z B ρ G σ L H) (h : ρ[i]? = some (.Q dss)) : ∃ G' L', Same G G' ∧ Ok J.Z B (ρ.set i (.O (dss.map D.lst))) G' σ L' H := by
  obtain ⟨c, w⟩ := o
  obtain ⟨p, xs, Li, L1, L2, _, e, q, _, a5⟩ := c.ownQ h
  subst e
  have w' : Wd G (Li ++ (L1 ++ ((p, .lst xs) :: (L2 ++ B)))) H := w.perm (by
    rw [List.append_assoc, List.cons_append, List.append_assoc]
    refine List.Perm.trans (List.perm_append_comm_assoc _ _ _) ?_
    exact List.Perm.append_left L1 List.perm_middle)
  obtain ⟨G', s2, w2, r2⟩ := q.frz w'
  refine ⟨G', _, s2, a5 G' xs _ s2 r2, ?_⟩
  rw [List.append_assoc, List.cons_append]
  exact w2
theorem sv_frzQ {t : TS} {m : MS S α} {fin : α → Fin} {i : Nat} {dss : List (List D)} (hi : ρ[i]? = some (.Q dss)) (h : Sv J T esc t (ρ.set i (.O (dss.map D.lst))) m fin) : Sv J T esc t ρ m fin := fun σ G s H L o E ht q => by
  obtain ⟨G', L', sm, o'⟩ := o.frzQ hi
  exact h σ G' s H L' o' E ht (Pss.mono sm q)
/-- where it stands -/
theorem Ok.ownQ {B : Led} {i : Nat} {dss : List (List D)} (o : Ok J.Z B ρ G σ L H) (h : ρ[i]? = some (.Q dss)) : ∃ (p : Addr) (xs : List V) (Li L1 L2 : Led), σ[i]? = some (some (.ref p)) ∧ L = L1 ++ ((p, .lst xs) :: (Li ++ L2)) ∧ H p = some (.lst xs) ∧ QAll J.Z G xs dss Li ∧
    (∀ b ys, (b, HO.lst ys) ∈ Li → H b = some (.lst ys)) ∧ ∀ G' ys es Li', Same G G' → QAll J.Z G' ys es Li' → Cells J.Z G' (ρ.set i (.Q es)) σ (L1 ++ ((p, .lst ys) :: (Li' ++ L2))) := by
  obtain ⟨c, w⟩ := o
  obtain ⟨p, xs, Li, L1, L2, a1, a2, a3, a4, _⟩ := c.ownQ h
  subst a2
  exact ⟨p, xs, Li, L1, L2, a1, rfl, (w.own (p, .lst xs) (by simp)).1, a3, fun b ys hb => (w.own (b, .lst ys) (by simp [hb])).1, a4⟩
/-- the same slot, told twice: the same places -/
theorem Ok.sameQ {B' : Led} {H' : Hp} {p : Addr} {xs : List V} {Li L1 L2 : Led} (o' : Ok J.Z B' ρ G' σ L H') (e : L = L1 ++ ((p, .lst xs) :: (Li ++ L2))) : H' p = some (.lst xs) := by
  subst e
  exact (o'.2.own (p, .lst xs) (by simp)).1
def atQ (dss : List (List D)) : D → Option Nat
  | .int z => ixN dss.length z
  | _ => none
def inQ (dss : List (List D)) (j : Nat) : List D := (dss[j]?).getD []
theorem atQ_lt {dss : List (List D)} {z : Int} {j : Nat} (h : ixN dss.length z = some j) : dss[j]? = some (inQ dss j) := by
  have := (ixN_seq h).2.1
  unfold inQ
  rw [List.getElem?_eq_getElem this]
  rfl
theorem ev_lenQ {K : PySem.W.Frag} {i : Nat} {dss : List (List D)} (hi : ρ[i]? = some (.Q dss)) : Ev J (tCB (rLn K) (tCons (tVar i) tNil)) ρ (ret (.int dss.length)) := EvG.pure fun σ G s H L o Q q => by
  obtain ⟨p, xs, Li, L1, L2, a1, a2, a3, a4, _, _⟩ := o.ownQ hi
  refine ⟨.ref p, a1, .inl ⟨.ref p, xs.length, rfl, .inl ⟨xs, sq_l a3, rfl⟩, ?_⟩⟩
  rw [a4.length]
  exact q _ G H (Same.refl _) o (.int _)
theorem et_truQ {K : PySem.W.Frag} {i : Nat} {dss : List (List D)} (hi : ρ[i]? = some (.Q dss)) : EvT J (fun σ H Q => tVar i σ H fun x H1 => ∃ k, TruV K x H1 k ∧ Q k H1) ρ (ret (!dss.isEmpty)) := EvG.pure fun σ G s H L o Q q => by
  obtain ⟨p, xs, Li, L1, L2, a1, a2, a3, a4, _, _⟩ := o.ownQ hi
  exact ⟨.ref p, a1, !dss.isEmpty, .inl ⟨xs, sq_l a3, by cases a4 <;> rfl⟩, q _ G H (Same.refl _) o rfl⟩
theorem ev_lenQ2 {K : PySem.W.Frag} {i : Nat} {dss : List (List D)} {ti : TE} {n : MS S D} (hi : ρ[i]? = some (.Q dss)) (hk : Ev J ti ρ n) : Ev J (tCB (rLn K) (tCons (tOp (rIx K) (tVar i) ti) tNil)) ρ (bnd n fun a => bnd (lft (atQ dss a)) fun j => ret (.int (inQ dss j).length)) := fun σ G s H L o Q q => by
  obtain ⟨p, xs, Li, L1, L2, a1, a2, a3, a4, a5, _⟩ := o.ownQ hi
  refine ⟨.ref p, a1, hk.run o q fun k u G2 s2 H2 e2 o2 rk q2 => ?_⟩
  cases k with
  | int z =>
    cases e : ixN dss.length z with
    | none =>
      rw [show atQ dss (.int z) = ixN dss.length z from rfl, e] at q2
      exact q2.elim
    | some j =>
      rw [show atQ dss (.int z) = ixN dss.length z from rfl, e] at q2
      obtain ⟨p2, xs2, Li2, L12, L22, b1, b2, b3, b4, b5, _⟩ := o2.ownQ hi
      rw [a1] at b1
      cases b1
      obtain ⟨b, ys, M1, M2, c1, c2, c3, _⟩ := b4.get (atQ_lt e)
      have hb : H2 b = some (.lst ys) := b5 b ys (by rw [c2]; simp)
      refine .inl ⟨p, xs2, z, .ref b, rfl, rX.int (J := J) (ρ := ρ) (σ := σ) (.inl rk), sq_l b3, ?_, .inl ⟨.ref b, ys.length, rfl, .inl ⟨ys, sq_l hb, rfl⟩, ?_⟩⟩
      · unfold atI
        rw [b4.length, e]
        exact c1
      · rw [c3.length]
        exact q2 _ G2 H2 (Same.refl _) o2 (.int _)
  | _ => exact q2.elim
def setQ (dss : List (List D)) (j : Nat) (k d : D) : Option (List (List D)) := (set1 (inQ dss j) k d).map fun es => dss.set j es
/-- xs[a][b] = e -/
theorem sv_setQ {K : PySem.W.Frag} {i : Nat} {dss : List (List D)} {te ta tb : TE} {m n1 n2 : MS S D} (hi : ρ[i]? = some (.Q dss)) (h : Ev J te ρ m) (hk : Ev J ta ρ n1) (hk2 : Ev J tb ρ n2) (w : Wk ρ esc) :
    Sv J Ta esc (tAsg te (gSub (tOp (rIx K) (tVar i) ta) tb rSetL)) ρ (bnd m fun d => bnd n1 fun a => bnd (lft (atQ dss a)) fun j => bnd n2 fun b => lft (setQ dss j b d)) (fun es => .nx (ρ.set i (.Q es))) := fun σ G s H L o E _ q =>
  h.runS o w q fun d v G1 s1 H1 e1 o1 r q1 => by
    obtain ⟨p, xs, Li, L1, L2, a1, a2, a3, a4, a5, _⟩ := o1.ownQ hi
    refine ⟨.ref p, a1, hk.runS o1 w q1 fun k u G2 s2 H2 e2 o2 rk q2 => ?_⟩
    cases k with
    | int z =>
      cases e : ixN dss.length z with
      | none =>
        rw [show atQ dss (.int z) = ixN dss.length z from rfl, e] at q2
        exact q2.elim
      | some j =>
        rw [show atQ dss (.int z) = ixN dss.length z from rfl, e] at q2
        have q2 : Pss J esc G2 E (fun es => .nx (ρ.set i (.Q es))) ((bnd n2 fun b => lft (setQ dss j b d)) s2) := q2
        obtain ⟨p2, xs2, Li2, L12, L22, b1, b2, b3, b4, b5, _⟩ := o2.ownQ hi
        rw [a1] at b1
        cases b1
        obtain ⟨b, ys, M1, M2, c1, c2, c3, _⟩ := b4.get (atQ_lt e)
        refine .inl ⟨p, xs2, z, .ref b, rfl, rX.int (J := J) (ρ := ρ) (σ := σ) (.inl rk), sq_l b3, by unfold atI; rw [b4.length, e]; exact c1, ?_⟩
        refine hk2.runS o2 w q2 fun k2 u2 G3 s3 H3 e3 o3 rk2 q3 => Pss.lft q3 fun es he q4 => ?_
        obtain ⟨p3, xs3, Li3, L13, L23, d1, d2, d3, d4, d5, d6⟩ := o3.ownQ hi
        rw [a1] at d1
        cases d1
        have ex : xs3 = xs2 := by
          have := o3.sameQ b2
          rw [d3] at this
          cases this
          rfl
        obtain ⟨b', zs, N1, N2, f1, f2, f3, f4⟩ := d4.get (atQ_lt e)
        have eb : b' = b := by
          rw [ex, c1] at f1
          cases f1
          rfl
        subst eb
        have hb : H3 b' = some (.lst zs) := d5 b' zs (by rw [f2]; simp)
        cases k2 with
        | int z2 =>
          unfold setQ set1 at he
          dsimp only at he
          cases e4 : ixN (inQ dss j).length z2 with
          | none => rw [e4] at he; cases he
          | some j2 =>
            rw [e4] at he
            cases he
            refine ⟨b', zs, z2, j2, rfl, rX.int (J := J) (ρ := ρ) (σ := σ) (.inl rk2), hb, by rw [f3.length]; exact e4, ?_⟩
            have r3 := f3.set ((r.mono e2).mono e3) j2
            refine q4 σ G3 _ _ (Same.refl _) ⟨d6 G3 _ _ _ (Same.refl _) (f4 G3 _ _ (Same.refl _) r3), ?_⟩
            have w3 := o3.2
            rw [d2, f2] at w3
            have e5 : ∀ x : HO, (L13 ++ (p, HO.lst xs3) :: (N1 ++ (b', x) :: N2 ++ L23)) ++ J.lay s3 = (L13 ++ (p, HO.lst xs3) :: N1) ++ (b', x) :: (N2 ++ L23 ++ J.lay s3) := fun x => by simp
            rw [e5] at w3
            rw [e5]
            exact w3.put
        | _ => cases he
    | _ => exact q2.elim
end
def pickB {S β : Type} (o : Option (List D → MS S β)) (fs : List D) : MS S β := match o with
  | some h => nex (h fs)
  | none => stk
def hsB {S β : Type} (n : Nat) (hs : List (Nat × (List D → MS S β))) (c : Nat) (fs : List D) : MS S β := if c < n then pickB (hs.lookup c) fs else stk
/-- try with clauses behind those that are told: what they do is not said -/
def tryB {S β : Type} (n : Nat) (m : MS S β) (hs : List (Nat × (List D → MS S β))) : MS S β := fun s => (m s).cat (hsB n hs)
section
variable {S β : Type} {J : Jc S} {T : Ends → Prop} {esc ρ : Dm.Env} {G : Hp} {E : Ends}
inductive HsB (J : Jc S) (T : Ends → Prop) (esc escB : Dm.Env) (fin : β → Dm.Fin) : List Cls3 → List (Nat × (List D → MS S β)) → Prop
  | rest {l : List Cls3} : HsB J T esc escB fin l []
  | name {c i : Nat} {ts : Addr → Value → Option Addr → TS} {h : List D → MS S β} {l : List Cls3} {hs : List (Nat × (List D → MS S β))}
      (hu : ∀ a dx fs, Sv J.quiet T (escB.set i (.A a (xF J.Z dx c fs))) (ts a (.ref (J.Z.cl c)) (some dx)) (escB.set i (.A a (xF J.Z dx c fs))) (h fs) fin) (hf : ∀ b, Frz0 i (fin b)) (r : HsB J T esc escB fin l hs) : HsB J T esc escB fin ((.ref (J.Z.cl c), some i, ts) :: l) ((c, h) :: hs)
  | bare {c : Nat} {ts : Addr → Value → Option Addr → TS} {h : List D → MS S β} {l : List Cls3} {hs : List (Nat × (List D → MS S β))}
      (hu : ∀ a dx fs, Sv J.quiet T escB (ts a (.ref (J.Z.cl c)) (some dx)) escB (h fs) fin) (r : HsB J T esc escB fin l hs) : HsB J T esc escB fin ((.ref (J.Z.cl c), none, ts) :: l) ((c, h) :: hs)
theorem sv_tryB {K : PySem.W.Frag} {n : Nat} {tb : WX → TS} {Wo : WX} {l : List Cls3} {hs : List (Nat × (List D → MS S β))} {m : MS S β} {escB : Dm.Env} {fin : β → Dm.Fin} (hT : ∀ E i, T E → T (gone E i)) (hx : ∀ c c', c < n → c' < n → PySem.W.exmOne K (.ref (J.Z.cl c)) (.ref (J.Z.cl c')) = some (decide (c = c')))
    (hb : ∀ X, Sv (J.to X) T escB (tb X) ρ m fin) (hh : HsB J T esc escB fin l hs) (hn : ∀ p ∈ hs, p.1 < n) (we : Wk escB esc) (hW : Wo = J.X := by rfl) : Sv J T esc (tTry K tb Wo l) ρ (tryB n m hs) fin := fun σ G s H L o E ht q => by
  subst hW
  refine hb (wHs K J.X E l) σ G s H L o E ht ?_
  have q1 : Pss J esc G E fin ((m s).cat (hsB n hs)) := q
  cases e : m s with
  | stuck =>
    rw [e] at q1
    exact q1
  | ok d s' =>
    rw [e] at q1
    have q1 : Fo J G E s' (fin d) := q1
    show Fo (J.to (wHs K J.X E l)) G E s' (fin d)
    cases hf : fin d <;> (rw [hf] at q1; exact q1)
  | ex c fs s' =>
    rw [e] at q1
    have q2 : Pss J esc G E fin (hsB n hs c fs s') := q1
    unfold hsB at q2
    by_cases hc : c < n
    · rw [if_pos hc] at q2
      intro σ1 dx vs G1 H1 L1 sm o1 hd hl hr
      have known : xF J.Z dx c fs G1 := ⟨vs, hd, hl, hr⟩
      have ran : ∀ {h : List D → MS S β} {i : Option Nat}, (∀ b, FrzO i (fin b)) → Pss J esc G E fin (pickB (some h) fs s') → ∀ esc', Pss J.quiet esc' G1 (gone E i) fin (h fs s') := fun {h i} hi q3 esc' => by
        have q4 : Pss J esc G E fin (nex (h fs) s') := q3
        unfold nex at q4
        cases e3 : h fs s' with
        | stuck => rw [e3] at q4; exact q4
        | ex _ _ _ => rw [e3] at q4; exact q4.elim
        | ok d s2 => rw [e3] at q4; exact Fo.goneF (hi d) (Fo.mono sm q4)
      have each : ∀ {l' : List Cls3} {hs' : List (Nat × (List D → MS S β))}, HsB J T esc escB fin l' hs' → (∀ p ∈ hs', p.1 < n) → Pss J esc G E fin (pickB (hs'.lookup c) fs s') → wHs K J.X E l' (.ref (J.Z.cl c)) (some dx) σ1 H1 := by
        intro l' hs' hk
        induction hk with
        | rest =>
          intro _ q3
          exact False.elim q3
        | @name c' i ts h l2 hs2 hu hf r ih =>
          intro hn2 q3
          have hc' : c' < n := hn2 (c', h) (by simp)
          refine ⟨_, hx c c' hc hc', fun hb a ha => ?_, fun hb => ?_⟩
          · have ec : c = c' := of_decide_eq_true hb
            subst ec
            rw [List.lookup_cons_self] at q3
            obtain ⟨L2, o2⟩ := o1.setA (i := i) (a := a) (F := xF J.Z dx c fs) fun G' s' => xF.mono known s'
            exact hu a dx fs _ G1 s' H1 L2 o2 _ (hT E (some i) ht) (ran (i := some i) hf q3 _)
          · have ec : c ≠ c' := of_decide_eq_false hb
            rw [List.lookup_cons, beq_false_of_ne ec] at q3
            exact ih (fun p hp => hn2 p (by simp [hp])) q3
        | @bare c' ts h l2 hs2 hu r ih =>
          intro hn2 q3
          have hc' : c' < n := hn2 (c', h) (by simp)
          refine ⟨_, hx c c' hc hc', fun hb a ha => ?_, fun hb => ?_⟩
          · have ec : c = c' := of_decide_eq_true hb
            subst ec
            rw [List.lookup_cons_self] at q3
            exact hu a dx fs _ G1 s' H1 L1 o1 _ (hT E none ht) (ran (i := none) (fun _ => trivial) q3 _)
          · have ec : c ≠ c' := of_decide_eq_false hb
            rw [List.lookup_cons, beq_false_of_ne ec] at q3
            exact ih (fun p hp => hn2 p (by simp [hp])) q3
      exact each hh hn q2
    · rw [if_neg hc] at q2
      exact q2.elim
end
/-! ### keywords within try -/
def tCallNS (n k : Nat) (sp : Sp) (gV : List V → List V → List V) (E : L2.St → XK) (t tk : TA) : TE := fun σ H Q => t σ H fun vs H1 => tk σ H1 fun zs H2 => vs.length = n ∧ zs.length = k ∧ sp (gV vs zs) H2 Q (E σ)
section
variable {X : Cx} {CX : CXT} {n : Nat} {fa : Addr} {fd : FuncData} {x : Str} {ps : List Str} {sp : Sp} {E : L2.St → XK} {e : Expr} {es : List Expr} {kws : List Keyword} {t tk : TA} {p pos : Pos} {j : Nat} {ks : List Str} {g : List Value → List Value → List Value} {gV : List V → List V → List V}
theorem run_GNs {E1 : XK} {pins : List (Addr × Obj)} {σ : L2.St} {H : Hp} {s : Shared} {Q : VK} {us ws : List Value} {vs zs : List V} (G : X.A.guards = some []) (F : FnG X.prog X.w X.K X.mg X.base CX n fa fd ps sp) (room : Room n X.A) (bt : KBn X.K fd ps j ks g gV) (out : PassesAt CX X σ E1)
    (I : Inv X pins σ H s) (r : Vals vs us) (rz : Vals zs ws) (l1 : vs.length = j) (l2 : zs.length = ks.length) (z : sp (gV vs zs) H Q E1) : wpAny (model X.prog X.w) X.A (call (.ref fa) us (ks.zip ws)) (EP X pins σ Q) X.xe s := by
  have b := bt.to s us ws I.kIn (r.length.symm.trans l1) (rz.length.symm.trans l2)
  refine wpAny_call (codeAny_mono (F.go X.A X.stack s H ⟨us, ks.zip ws⟩ (g us ws) (gV vs zs) Q E1 G room I.env0 b (bt.rel r rz) z) fun re s' hq => ?_)
  match re, hq with
  | .error er, hq => exact out pins H s er s' I hq
  | .ok (.ret u), hq => exact I.after hq
  | .ok .next, hq => exact hq.elim
  | .ok .brk, hq => exact hq.elim
  | .ok .cont, hq => exact hq.elim
theorem pe_callGNs (G : X.A.guards = some []) (F : FnG X.prog X.w X.K X.mg X.base CX n fa fd ps sp) (room : Room n X.A) (hg : Gl X x) (hm : X.mg x = some (.ref fa)) (hk : PySem.W.keepIn X.K (.ref fa) = true) (bt : KBn X.K fd ps j ks g gV) (out : ∀ σ, PassesAt CX X σ (E σ))
    (ha : PA X (e :: es) t) (hkw : PK X kws tk) (hall : (backToKw pos (keywordEach kws X.env)).all (·.1.isSome) = true := by rfl) (hks : (backToKw pos (keywordEach kws X.env)).filterMap (·.1) = ks := by rfl)
    (hdb : (x == ("__debug__" : Str)) = false := by decide) (he : starEach (e :: es) X.env = (false, eval e X.env) :: starEach es X.env := by rfl)
    (hpl : ((backTo pos (starEach (e :: es) X.env)).any (·.1) || (backToKw pos (keywordEach kws X.env)).any (·.1.isNone)) = false := by rfl) : PE X (.Call (.Name x p) (e :: es) kws pos) (tCallNS j ks.length sp gV E t tk) where
  run := fun pins s σ H Q I h => by
    refine wpAny_Call_Name_kw (ld_glob I hg hm (PySem.W.callWith_KW (h₀ := X.base) I.ok.mod.kin hk hall (thn (ha.run pos pins s σ H _ I h) ?_) hpl he) hdb)
    rintro us s1 ⟨vs, H1, I1, r, q⟩
    refine thn (hkw.run pos pins s1 σ H1 _ I1 q) ?_
    rintro ws s2 ⟨zs, H2, I2, rz, l1, l2, q2⟩
    refine ⟨I2.kIn, ?_⟩
    rw [hks]
    exact run_GNs G F room bt (out σ) I2 r rz l1 l2 q2
end
section
variable {S : Type} {J : Jc S} {ρ : Dm.Env}
theorem ev_callNS {n k : Nat} {m : (S : Type) → List D → MS S D} {gV : List V → List V → List V} {gD : List D → List D → List D} {ta tk : TA} {ma mk : MS S (List D)} (h : EvA J ta ρ ma) (hk : EvA J tk ρ mk)
    (hg : ∀ G vs ds zs es, RpAll J.Z G vs ds → RpAll J.Z G zs es → ds.length = n → es.length = k → RpAll J.Z G (gV vs zs) (gD ds es)) :
    Ev J (tCallNS n k (spM J.Z m) gV (WE J.X) ta tk) ρ (bnd ma fun ds => bnd mk fun es => if ds.length = n ∧ es.length = k then m S (gD ds es) else stk) := fun σ G s H L o Q q =>
  h.run o q fun ds xs G1 s1 H1 e1 o1 r q1 => hk.run o1 q1 fun es zs G2 s2 H2 e2 o2 rz q2 => by
    by_cases hl : ds.length = n ∧ es.length = k
    · rw [if_pos hl] at q2
      have r2 := RpAll.mono e2 r
      refine ⟨r2.length.trans hl.1, RpAll.length rz |>.trans hl.2, S, fun s => L ++ J.lay s, G2, s2, gD ds es, o2.2, hg G2 xs ds zs es r2 rz hl.1 hl.2, ?_⟩
      cases e : m S (gD ds es) s2 with
      | stuck =>
        rw [e] at q2
        exact q2
      | ex c fs s3 =>
        rw [e] at q2
        exact fun dx vs G' H' sm w a b rr => q2 dx vs G' H' sm ⟨o2.1.mono sm, w⟩ a b rr
      | ok d s3 =>
        rw [e] at q2
        exact fun v G' H' sm w rr => q2 v G' H' sm ⟨o2.1.mono sm, w⟩ rr
    · rw [if_neg hl] at q2
      exact q2.elim
end
/-! ### comprehensions within comprehensions -/
def relS (scope sc : Scope) : Scope := { scope with names := scope.names.map fun (n, k) => if (k == .free && sc.kind == .function && sc.names.lookup n == some .cell) then (n, .cell) else (n, k) }
theorem blkOk_in {N : List Str} {sc scope0 scope : Scope} {own : List (Str × Nat)} {cl : List (Str × Addr)} {C : Addr} {env : PySem.Env} (e : env.scope = sc) (h : blkC N (relS scope0 sc) scope own = true) : BlkOk N (compEnvC scope0 cl C env).scope scope own := by
  subst e
  exact blkOk_by h
/-! ### a, b = a tuple or a list -/
def gSeq (K : PySem.W.Frag) (n : Nat) (t : TGs) : TG := fun v σ H Q => gTup K n t v σ H Q ∨ gLst K n t v σ H Q
theorem pg_seqK {X : Cx} {K : PySem.W.Frag} (hK : X.K = K) {pos : Pos} {es : List Expr} {k : Nat} {t : TGs} {n : Nat} (hc : X.calm = true) (ht : PGs X es t) (hn : (assignEach es X.env).length = n := by rfl) (hf : List.findIdx? (fun x => x.fst) (assignEach es X.env) = none := by rfl) : PG X (.Tuple es k pos) (gSeq K n t) :=
  hK ▸ ⟨fun pins s σ H v u Q I r hw => hw.elim (fun h => (pg_tup hc ht hn hf).run pins s σ H v u Q I r h) fun h => (pg_lst hc ht hn hf).run pins s σ H v u Q I r h⟩
def un2s : D → Option (D × D)
  | .tup [a, b] => some (a, b)
  | .lst [a, b] => some (a, b)
  | _ => none
theorem un2s_of {d a b : D} (h : items d = some [a, b]) : un2s d = some (a, b) := by
  cases d <;> first | (cases h; done) | (cases h; rfl)
theorem un2s_some {d : D} {t : D × D} (h : un2s d = some t) : d = .tup [t.1, t.2] ∨ d = .lst [t.1, t.2] := by
  unfold un2s at h
  split at h
  · cases h
    exact .inl rfl
  · cases h
    exact .inr rfl
  · cases h
theorem tg_pairS {S : Type} {J : Jc S} {K : PySem.W.Frag} (i j : Nat) : Tg J (gSeq K 2 (gCons (gName i) (gCons (gName j) gNil))) un2s (fun t ρ => (ρ.set i (.P t.1)).set j (.P t.2)) [i, j] where
  go := fun d t ρ x σ G s H L hu o r Q q => by
    rcases un2s_some hu with e | e
    · subst e
      exact .inl ((tg_pair (K := K) i j).go _ t ρ x σ G s H L rfl o r Q q)
    · subst e
      right
      cases r with
      | lst h1 r1 =>
        cases r1 with
        | cons ra r2 =>
          cases r2 with
          | cons rb r3 =>
            cases r3
            obtain ⟨L1, o1, h2⟩ := o.setP (i := i) ra
            obtain ⟨L2, o2, h3⟩ := o1.setP (i := j) rb
            refine ⟨_, _, rfl, sq_l (o.same _ _ h1), rfl, _, _, rfl, _, _, rfl, rfl, ?_⟩
            refine q _ L2 o2 (by simp) (fun k hk => ?_) fun h => ?_
            · rw [List.getElem?_set_ne (fun e => hk (by simp [e])), List.getElem?_set_ne (fun e => hk (by simp [e]))]
            · rw [h3 (set_O (h j (by simp))), h2 (h i (by simp))]
end Dm

set_option Elab.async false
set_option linter.all false
set_option maxRecDepth 100000
set_option maxHeartbeats 2000000
namespace Dm
open PySem PySem.Spec PyProof.Rows L2
/-! ### the same data twice, also with dicts within: they are equal -/
section
variable {prog : Program} {w : World}
theorem tup_twin_eq (l b : Addr) (items items2 : Array Value) (n n2 : Nat) (dd dd2 : Option Addr) (sl sl2 : Array (Option Value)) (hsz : items.size = items2.size) :
    MeetsIn prog w (Builtin.«tuple.__eq__» ⟨[.ref l, .ref b], []⟩) (fun A R s => s.heap.get? l = some { cls := .type "tuple", dict := dd, data := .seq items n, slots := sl } ∧ s.heap.get? b = some { cls := .type "tuple", dict := dd2, data := .seq items2 n2, slots := sl2 } ∧
      (∀ p ∈ items.toList.zip items2.toList, SeqAt.EqP prog w A.in1 s p.1 p.2 true) ∧ R (.ok (.ret (.bool true))) s) :=
  .of_wp fun A R s h => by
    obtain ⟨hp, g, d, tk, os⟩ := s
    obtain ⟨hl, hb, he, h⟩ := h
    have f2 := AutoSeq1.sub_tuple_tuple
    wp_walk using AutoSeq1.wpAny_loadPart' hl, AutoSeq1.wpAny_loadPart' hb, wpAny_forIn_list _ (fun rest b s' => b.1 = none ∧ s' = ⟨hp, g, d, tk, os⟩ ∧ ∀ p ∈ rest, SeqAt.EqP prog w A.in1 ⟨hp, g, d, tk, os⟩ p.1 p.2 true) _
    case turn =>
      rintro ⟨y, x⟩ rest b s' ⟨hb', rfl, hz⟩
      refine wpAny_bind (hz (y, x) List.mem_cons_self _ _ ?_)
      wp_walk
      exact ⟨rfl, rfl, fun p hp => hz p (List.mem_cons_of_mem _ hp)⟩
    case fin =>
      rintro ⟨b1, b2⟩ s' ⟨hb', rfl, hz⟩
      simp only at hb'
      subst hb'
      wp_walk
      exact ⟨_, rfl, by simpa [Builtin.Tuple.tupleCompareSizes, hsz] using h⟩
    case h =>
      exact ⟨rfl, rfl, he⟩
theorem tup_twin_ne (l b : Addr) (items items2 : Array Value) (n n2 : Nat) (dd dd2 : Option Addr) (sl sl2 : Array (Option Value)) (hsz : items.size = items2.size) :
    MeetsIn prog w (Builtin.«tuple.__ne__» ⟨[.ref l, .ref b], []⟩) (fun A R s => s.heap.get? l = some { cls := .type "tuple", dict := dd, data := .seq items n, slots := sl } ∧ s.heap.get? b = some { cls := .type "tuple", dict := dd2, data := .seq items2 n2, slots := sl2 } ∧
      (∀ p ∈ items.toList.zip items2.toList, SeqAt.EqP prog w A.in1 s p.1 p.2 true) ∧ R (.ok (.ret (.bool false))) s) :=
  .of_wp fun A R s h => by
    obtain ⟨hp, g, d, tk, os⟩ := s
    obtain ⟨hl, hb, he, h⟩ := h
    have f2 := AutoSeq1.sub_tuple_tuple
    wp_walk using AutoSeq1.wpAny_loadPart' hl, AutoSeq1.wpAny_loadPart' hb, wpAny_forIn_list _ (fun rest b s' => b.1 = none ∧ s' = ⟨hp, g, d, tk, os⟩ ∧ ∀ p ∈ rest, SeqAt.EqP prog w A.in1 ⟨hp, g, d, tk, os⟩ p.1 p.2 true) _
    case turn =>
      rintro ⟨y, x⟩ rest b s' ⟨hb', rfl, hz⟩
      refine wpAny_bind (hz (y, x) List.mem_cons_self _ _ ?_)
      wp_walk
      exact ⟨rfl, rfl, fun p hp => hz p (List.mem_cons_of_mem _ hp)⟩
    case fin =>
      rintro ⟨b1, b2⟩ s' ⟨hb', rfl, hz⟩
      simp only at hb'
      subst hb'
      wp_walk
      exact ⟨_, rfl, by simpa [Builtin.Tuple.tupleCompareSizes, bne, hsz] using h⟩
    case h =>
      exact ⟨rfl, rfl, he⟩
section
variable {A : Around} {s : Shared} {l b : Addr} {items items2 : Array Value}
theorem rc_twin_eq (hl : s.heap.IsTuple l items) (hb : s.heap.IsTuple b items2) (hsz : items.size = items2.size) (hu : A.units < cLine) (he : ∀ p ∈ items.toList.zip items2.toList, SeqAt.EqP prog w A.in1 s p.1 p.2 true) (E Q : Value → Shared → Prop) (h : Q (.bool true) s) :
    wpAny (model prog w) A (richCompare .Eq (.ref l) (.ref b)) Q E s := by
  obtain ⟨⟨cls, dd, data, sl⟩, ho, hc, n, hd⟩ := id hl
  obtain ⟨⟨cls2, dd2, data2, sl2⟩, ho2, hc2, n2, hd2⟩ := id hb
  simp only at hc hd hc2 hd2
  subst hc hd hc2 hd2
  have ta : s.TypeIs (.ref l) "tuple" := ⟨_, ho, rfl⟩
  have tb : s.TypeIs (.ref b) "tuple" := ⟨_, ho2, rfl⟩
  exact wpAny_richCompare_same_room (op := .Eq) ta tb F.slot_tuple_eq (call_meetsIn F.slot_tuple_eq ta F.entry_tuple_eq (F.args_tuple_eq_2 _ _) (tup_twin_eq l b items items2 n n2 dd dd2 sl sl2 hsz)
    ⟨ho, ho2, he, show Value.bool true ≠ Value.notImplemented ∧ Q (.bool true) s from ⟨(fun x => nomatch x), h⟩⟩) hu
theorem rc_twin_ne (hl : s.heap.IsTuple l items) (hb : s.heap.IsTuple b items2) (hsz : items.size = items2.size) (hu : A.units < cLine) (he : ∀ p ∈ items.toList.zip items2.toList, SeqAt.EqP prog w A.in1 s p.1 p.2 true) (E Q : Value → Shared → Prop) (h : Q (.bool false) s) :
    wpAny (model prog w) A (richCompare .NotEq (.ref l) (.ref b)) Q E s := by
  obtain ⟨⟨cls, dd, data, sl⟩, ho, hc, n, hd⟩ := id hl
  obtain ⟨⟨cls2, dd2, data2, sl2⟩, ho2, hc2, n2, hd2⟩ := id hb
  simp only at hc hd hc2 hd2
  subst hc hd hc2 hd2
  have ta : s.TypeIs (.ref l) "tuple" := ⟨_, ho, rfl⟩
  have tb : s.TypeIs (.ref b) "tuple" := ⟨_, ho2, rfl⟩
  exact wpAny_richCompare_same_room (op := .NotEq) ta tb F.slot_tuple_ne (call_meetsIn F.slot_tuple_ne ta F.entry_tuple_ne (F.args_tuple_ne_2 _ _) (tup_twin_ne l b items items2 n n2 dd dd2 sl sl2 hsz)
    ⟨ho, ho2, he, show Value.bool false ≠ Value.notImplemented ∧ Q (.bool false) s from ⟨(fun x => nomatch x), h⟩⟩) hu
end
end
/-- twins: the same flat value, tuples of twins, dicts of one entry of ints -/
def Tw (K : PySem.W.Frag) (H : Hp) : Nat → V → V → Prop
  | 0, _, _ => False
  | n + 1, x, y => (x = y ∧ flatB x = true) ∨ (∃ a b xs ys, x = .ref a ∧ y = .ref b ∧ SqT K H a xs ∧ SqT K H b ys ∧ Paired (Tw K H n) xs ys) ∨
      ∃ a b i j, x = .ref a ∧ y = .ref b ∧ H a = some (.dK [(.inl i, .int j)]) ∧ H b = some (.dK [(.inl i, .int j)])
theorem zip_twin {P : Program} {w : World} {A : Around} {s : Shared} {F : V → V → Prop} (ih : ∀ x y v u, F x y → RelV x v → RelV y u → SeqAt.EqP P w A s v u true) : ∀ {xs ys : List V} {us ws : List Value}, Paired F xs ys → Vals xs us → Vals ys ws → us.length = ws.length ∧ ∀ p ∈ us.zip ws, SeqAt.EqP P w A s p.1 p.2 true
  | _, _, _, _, .nil, .nil, .nil => ⟨rfl, fun p hp => nomatch hp⟩
  | _, _, _, _, .cons h t, .cons r1 t1, .cons r2 t2 => by
    obtain ⟨e, k⟩ := zip_twin ih t t1 t2
    refine ⟨congrArg Nat.succ e, fun p hp => ?_⟩
    rw [List.zip_cons_cons] at hp
    rcases List.mem_cons.1 hp with q | q
    · subst q
      exact ih _ _ _ _ h r1 r2
    · exact k p q
section
variable {X : Cx} {pins : List (Addr × Obj)} {σ : L2.St} {H : Hp} {s : Shared}
theorem one_hit {P : Program} {w : World} {A : Around} {i j : Int} : ∀ {va vb : List (Key × Value)}, KV [(.inl i, .int j)] va → KV [(.inl i, .int j)] vb → PySem.W.KeqHitsP P w A s vb va true := fun {va vb} ra rb => by
  refine L2.hits_run (F := fun x y => x = .int j ∧ y = .int j) (fun x y v u h r1 r2 => ?_) rb ra fun p hp => ⟨.int j, ?_, ?_, rfl⟩
  · obtain ⟨rfl, rfl⟩ := h
    exact (eqAt_same r1 r2 rfl).eqP
  · rw [List.mem_singleton.1 hp]
    simp [valV]
  · rw [List.mem_singleton.1 hp]
theorem tw_run (I : Inv X pins σ H s) : ∀ (n : Nat) (A : Around), A.units + n < cLine → ∀ (x y : V) (v u : Value), Tw X.K H n x y → RelV x v → RelV y u → SeqAt.EqP X.prog X.w A s v u true
  | 0, _, _, _, _, _, _, h, _, _ => (show False from h).elim
  | n + 1, A, hu, x, y, v, u, h, rx, ry => by
    rcases h with ⟨rfl, f⟩ | ⟨a, b, xs, ys, rfl, rfl, ha, hb, hp⟩ | ⟨a, b, i, j, rfl, rfl, ha, hb⟩
    · exact (eqAt_same rx ry f).eqP
    · cases (show v = Value.ref a from rx)
      cases (show u = Value.ref b from ry)
      by_cases e : a = b
      · subst e
        exact (SeqAt.EqAt.same _).eqP
      · obtain ⟨us, r1, t1, _⟩ := I.tuple ha
        obtain ⟨ws, r2, t2, _⟩ := I.tuple hb
        obtain ⟨e1, k⟩ := zip_twin (fun x y v u h r1 r2 => tw_run I n A.in1 (by show A.units + 1 + n < cLine; omega) x y v u h r1 r2) hp r1 r2
        exact SeqAt.eqP_refs e (rc_twin_eq t1 t2 (by simpa using e1) (by omega) (by simpa using k))
    · cases (show v = Value.ref a from rx)
      cases (show u = Value.ref b from ry)
      by_cases e : a = b
      · subst e
        exact (SeqAt.EqAt.same _).eqP
      · obtain ⟨_, ya, va, ra, da⟩ := (show ObjOk X.prog X.w H s.heap a (.dK [(.inl i, .int j)]) from I.hok a _ ha)
        obtain ⟨_, yb, vb, rb, db⟩ := (show ObjOk X.prog X.w H s.heap b (.dK [(.inl i, .int j)]) from I.hok b _ hb)
        refine SeqAt.eqP_refs e fun E Q q => PySem.W.rcP_dicts (knd := mixKind X.prog X.w) (r := true) ya yb da db (by omega) (fun _ => one_hit ra rb) E Q ?_
        rw [show (va.length == vb.length && true) = true from by rw [← ra.length, ← rb.length]; simp]
        exact q
end
def rNeTw (K : PySem.W.Frag) : R2 := fun x y H Q => ((∃ a b xs ys, x = .ref a ∧ y = .ref b ∧ SqT K H a xs ∧ SqT K H b ys ∧ Paired (Tw K H 60) xs ys) ∨
  ∃ a b i j, x = .ref a ∧ y = .ref b ∧ H a = some (.dK [(.inl i, .int j)]) ∧ H b = some (.dK [(.inl i, .int j)])) ∧ Q (.bl false) H
theorem op_neTw {X : Cx} (hu : X.A.units + 64 < cLine) : OpR X (compareOp .NotEq) (rNeTw X.K) := by
  intro pins s σ H x y v u Q I rx ry h
  obtain ⟨⟨a, b, xs, ys, rfl, rfl, ha, hb, hp⟩ | ⟨a, b, i, j, rfl, rfl, ha, hb⟩, q⟩ := h
  · cases (show v = Value.ref a from rx)
    cases (show u = Value.ref b from ry)
    obtain ⟨us, r1, t1, _⟩ := I.tuple ha
    obtain ⟨ws, r2, t2, _⟩ := I.tuple hb
    obtain ⟨e1, k⟩ := zip_twin (fun x y v u h r1 r2 => tw_run I 60 X.A.in1 (by show X.A.units + 1 + 60 < cLine; omega) x y v u h r1 r2) hp r1 r2
    exact rc_twin_ne t1 t2 (by simpa using e1) (by omega) (by simpa using k) _ _ ⟨.bl false, H, I, rfl, q⟩
  · exact op_ne_dictA (by omega) pins s σ H (.ref a) (.ref b) v u Q I rx ry ⟨a, b, _, _, rfl, rfl, ha, hb, rfl, fun p hp => by rw [List.mem_singleton.1 hp]; exact ⟨by simp [valV], rfl⟩, q⟩
mutual
/-- data that are twins of themselves -/
def twD : D → Bool
  | .non => true
  | .bl _ => true
  | .int _ => true
  | .str _ => true
  | .tup xs => twsD xs
  | .dct [(.inl _, .int _)] => true
  | _ => false
def twsD : List D → Bool
  | [] => true
  | x :: xs => twD x && twsD xs
end
theorem twsD_mem : ∀ {ds : List D}, twsD ds = true ↔ ∀ d ∈ ds, twD d = true
  | [] => by simp [twsD]
  | d :: ds => by
    rw [twsD, Bool.and_eq_true, twsD_mem]
    simp
theorem tw_dct {kvs : List (Key × V)} (h : twD (.dct kvs) = true) : ∃ i j, kvs = [(.inl i, .int j)] := by
  unfold twD at h
  split at h <;> first | (cases h; done) | skip
  all_goals first | exact ⟨_, _, by assumption⟩ | (rename_i e; cases e; exact ⟨_, _, rfl⟩) | (simp_all; done)
mutual
theorem rp_tw {Z : Wo} {K : PySem.W.Frag} {G H : Hp} (sm : Same G H) : ∀ {d : D} {n : Nat} {x y : V}, twD d = true → depD d < n → Rp Z G x d → Rp Z G y d → Tw K H n x y
  | .non, n + 1, _, _, _, _, .non, .non => .inl ⟨rfl, rfl⟩
  | .bl _, n + 1, _, _, _, _, .bl _, .bl _ => .inl ⟨rfl, rfl⟩
  | .int _, n + 1, _, _, _, _, .int _, .int _ => .inl ⟨rfl, rfl⟩
  | .str _, n + 1, _, _, _, _, .str _, .str _ => .inl ⟨rfl, rfl⟩
  | .tup ds, n + 1, _, _, h, hn, .tup h1 r1, .tup h2 r2 => .inr (.inl ⟨_, _, _, _, rfl, rfl, sq_t (sm _ _ h1), sq_t (sm _ _ h2), rps_tw sm h (by rw [depD] at hn; omega) r1 r2⟩)
  | .dct kvs, n + 1, _, _, h, _, .dct h1, .dct h2 => by
    obtain ⟨i, j, rfl⟩ := tw_dct h
    exact .inr (.inr ⟨_, _, i, j, rfl, rfl, sm _ _ h1, sm _ _ h2⟩)
  | .lst _, _, _, _, h, _, _, _ => by cases h
  | .obj _ _, _, _, _, h, _, _, _ => by cases h
theorem rps_tw {Z : Wo} {K : PySem.W.Frag} {G H : Hp} (sm : Same G H) : ∀ {ds : List D} {n : Nat} {xs ys : List V}, twsD ds = true → depsD ds < n → RpAll Z G xs ds → RpAll Z G ys ds → Paired (Tw K H n) xs ys
  | [], _, _, _, _, _, .nil, .nil => .nil
  | d :: ds, n, _, _, h, hn, .cons a r1, .cons b r2 => by
    rw [twsD, Bool.and_eq_true] at h
    rw [depsD] at hn
    exact .cons (rp_tw sm h.1 (by omega) a b) (rps_tw sm h.2 (by omega) r1 r2)
end
open Classical in
/-- != of data, also of twins with dicts within -/
noncomputable def oNeY (d e : D) : Option D := match oNe d e with
  | some z => some z
  | none => if d = e ∧ twD d = true ∧ depD d ≤ 60 then some (.bl false) else none
theorem oNeY_of {d e z : D} (h : oNe d e = some z) : oNeY d e = some z := by
  unfold oNeY
  rw [h]
theorem eqD_refl {d : D} {b : Bool} (h : eqD d d = some b) : b = true := by
  rcases eqD_or h with ⟨x, y, e1, e2, rfl⟩ | h
  · rw [e1] at e2
    cases e2
    exact decide_eq_true rfl
  · unfold eqD0 at h
    cases e : toPy d with
    | none => rw [e] at h; cases h
    | some a =>
      rw [e] at h
      dsimp only at h
      split at h
      · rename_i c
        rw [Bool.and_eq_true] at c
        cases h
        exact PySem.SeqAt.eqv_refl a (SeqAt.canLay_of_shaped c.1)
      · cases h
theorem oNeY_self {d : D} (h : twD d = true) (hd : depD d ≤ 60) : oNeY d d = some (.bl false) := by
  have h2 : ∀ z, oNe d d = some z → z = .bl false := fun z hz => by
    unfold oNe at hz
    cases e : eqD d d with
    | none => rw [e] at hz; cases hz
    | some b =>
      rw [e] at hz
      cases hz
      rw [eqD_refl e]
      rfl
  unfold oNeY
  cases e : oNe d d with
  | some z =>
    dsimp only
    rw [h2 z e]
  | none =>
    dsimp only
    rw [if_pos ⟨rfl, h, hd⟩]
def rNeY (K : PySem.W.Frag) : R2 := fun x y H Q => rNeX K x y H Q ∨ rNeTw K x y H Q
theorem op_neYK {X : Cx} {K : PySem.W.Frag} (h : X.K = K) (hu : X.A.units + 64 < cLine) : OpR X (compareOp .NotEq) (rNeY K) := OpR.either (op_neK h hu) (h ▸ op_neTw hu)
theorem o2_neY {S : Type} {J : Jc S} {ρ : Dm.Env} {K : PySem.W.Frag} : Op2 J ρ (rNeY K) oNeY := fun σ G s H L x y d e z o rx ry hz Q q => by
  unfold oNeY at hz
  cases h : oNe d e with
  | some z' =>
    rw [h] at hz
    cases hz
    exact .inl (o2_ne σ G s H L x y d e z o rx ry h Q q)
  | none =>
    rw [h] at hz
    dsimp only at hz
    split at hz
    · rename_i c
      obtain ⟨rfl, t, hd⟩ := c
      cases hz
      have big : ∀ {x y : V}, Rp J.Z G x d → Rp J.Z G y d → rNeY K x y H Q := fun {x y} r1 r2 => by
        cases d with
        | tup ds =>
          cases r1 with
          | tup h1 s1 =>
            cases r2 with
            | tup h2 s2 =>
              rw [depD] at hd
              exact .inr ⟨.inl ⟨_, _, _, _, rfl, rfl, sq_t (o.same _ _ h1), sq_t (o.same _ _ h2), rps_tw o.same t (by omega) s1 s2⟩, q _ G H (Same.refl _) o (.bl _)⟩
        | dct kvs =>
          obtain ⟨i, j, rfl⟩ := tw_dct t
          cases r1 with
          | dct h1 =>
            cases r2 with
            | dct h2 => exact .inr ⟨.inr ⟨_, _, i, j, rfl, rfl, o.same _ _ h1, o.same _ _ h2⟩, q _ G H (Same.refl _) o (.bl _)⟩
        | lst _ => cases t
        | obj _ _ => cases t
        | non => cases h
        | bl _ => cases h
        | int _ => cases h
        | str _ => simp [oNe, eqD] at h
      have flat : ∀ {v : V}, rX J ρ σ G v d → Rp J.Z G v d := fun {v} r => by
        rcases r with r | ⟨_, ds, _, _, e⟩
        · exact r
        · subst e
          cases t
      exact big (flat rx) (flat ry)
    · cases hz
end Dm

set_option Elab.async false
set_option linter.all false
set_option maxRecDepth 100000
set_option maxHeartbeats 8000000
namespace G_spreadhues_k59_whole_sights_checked
open PySem PySem.Spec PyProof.Rows L2 Dm
def topS (i : Nat) : Stmt := PySem.Challenge.pw_spreadhues_k59_whole_sights_checked.main.body.getD i (.Pass ⟨0, 0, 0, 0⟩)
abbrev s_is_whole : Stmt := topS 8
abbrev s_is_sequence : Stmt := topS 9
abbrev s_is_couple : Stmt := topS 10
abbrev s_is_colour : Stmt := topS 11
abbrev s_wrong_colour : Stmt := topS 12
abbrev s_check_marks : Stmt := topS 16
abbrev s_check_script : Stmt := topS 17
abbrev s__pour_fault : Stmt := topS 18
abbrev s_check_firsts : Stmt := topS 19
abbrev s__is_due : Stmt := topS 20
abbrev s_check_sights : Stmt := topS 23
abbrev s__sight_fault : Stmt := topS 24
abbrev s__is_row : Stmt := topS 25
abbrev s__law_hand : Stmt := topS 27
abbrev s__law_mixed : Stmt := topS 28
abbrev s__law_take : Stmt := topS 29
abbrev s__law_colour : Stmt := topS 30
abbrev s__law_tuples : Stmt := topS 31
abbrev s__law_bare : Stmt := topS 32
abbrev s__law_lists : Stmt := topS 33
abbrev s__law_odd : Stmt := topS 34
abbrev s__law_rid : Stmt := topS 35
abbrev s__law_asked : Stmt := topS 36
abbrev s__law_number : Stmt := topS 37
abbrev s__law_hues : Stmt := topS 38
abbrev s__law_pours : Stmt := topS 39
abbrev s__law_due : Stmt := topS 40
abbrev s__law_cracked : Stmt := topS 41
abbrev s__law_torn : Stmt := topS 42
abbrev s__law_wrong : Stmt := topS 43
abbrev s__law_begun : Stmt := topS 44
abbrev s_law : Stmt := topS 45
abbrev s_BadMarks : Stmt := inClass (topS 2) 0
abbrev s_BadScript : Stmt := inClass (topS 3) 0
abbrev s_BadFirsts : Stmt := inClass (topS 4) 0
abbrev s_BadSight : Stmt := inClass (topS 5) 0
structure Ad where
  a_is_whole : Addr
  d_is_whole : FuncData
  a_is_sequence : Addr
  d_is_sequence : FuncData
  a_is_couple : Addr
  d_is_couple : FuncData
  a_is_colour : Addr
  d_is_colour : FuncData
  a_wrong_colour : Addr
  d_wrong_colour : FuncData
  a_check_marks : Addr
  d_check_marks : FuncData
  a_check_script : Addr
  d_check_script : FuncData
  a__pour_fault : Addr
  d__pour_fault : FuncData
  a_check_firsts : Addr
  d_check_firsts : FuncData
  a__is_due : Addr
  d__is_due : FuncData
  a_check_sights : Addr
  d_check_sights : FuncData
  a__sight_fault : Addr
  d__sight_fault : FuncData
  a__is_row : Addr
  d__is_row : FuncData
  a__law_hand : Addr
  d__law_hand : FuncData
  a__law_mixed : Addr
  d__law_mixed : FuncData
  a__law_take : Addr
  d__law_take : FuncData
  a__law_colour : Addr
  d__law_colour : FuncData
  a__law_tuples : Addr
  d__law_tuples : FuncData
  a__law_bare : Addr
  d__law_bare : FuncData
  a__law_lists : Addr
  d__law_lists : FuncData
  a__law_odd : Addr
  d__law_odd : FuncData
  a__law_rid : Addr
  d__law_rid : FuncData
  a__law_asked : Addr
  d__law_asked : FuncData
  a__law_number : Addr
  d__law_number : FuncData
  a__law_hues : Addr
  d__law_hues : FuncData
  a__law_pours : Addr
  d__law_pours : FuncData
  a__law_due : Addr
  d__law_due : FuncData
  a__law_cracked : Addr
  d__law_cracked : FuncData
  a__law_torn : Addr
  d__law_torn : FuncData
  a__law_wrong : Addr
  d__law_wrong : FuncData
  a__law_begun : Addr
  d__law_begun : FuncData
  a_law : Addr
  d_law : FuncData
  c_HueError : Addr
  c_BadMarks : Addr
  c_BadScript : Addr
  c_BadFirsts : Addr
  c_BadSight : Addr
  i_BadMarks : Addr
  di_BadMarks : FuncData
  i_BadScript : Addr
  di_BadScript : FuncData
  i_BadFirsts : Addr
  di_BadFirsts : FuncData
  i_BadSight : Addr
  di_BadSight : FuncData
def fnZ : Nat → List Str
  | 0 => ["marks"]
  | 1 => ["what", "index"]
  | 2 => ["index"]
  | 3 => ["what", "index"]
  | _ => []
def Zo (K : PySem.W.Frag) (A : Ad) : Wo := ⟨K, fun n => match n with | 0 => A.c_BadMarks | 1 => A.c_BadScript | 2 => A.c_BadFirsts | 3 => A.c_BadSight | _ => 0, fnZ⟩
structure Tx (K : PySem.W.Frag) (mg : Str → Option Value) (A : Ad) : Prop where
  F_is_whole : FunD K "is_whole" "is_whole" (defArgs s_is_whole) (defBody s_is_whole) (defScope s_is_whole) [.non, .non] [] A.a_is_whole A.d_is_whole
  g_is_whole : mg "is_whole" = some (.ref A.a_is_whole)
  b_is_whole : Binds K A.d_is_whole ["thing", "low", "high"] []
  F_is_sequence : FunD K "is_sequence" "is_sequence" (defArgs s_is_sequence) (defBody s_is_sequence) (defScope s_is_sequence) [] [] A.a_is_sequence A.d_is_sequence
  g_is_sequence : mg "is_sequence" = some (.ref A.a_is_sequence)
  b_is_sequence : Binds K A.d_is_sequence ["thing"] []
  F_is_couple : FunD K "is_couple" "is_couple" (defArgs s_is_couple) (defBody s_is_couple) (defScope s_is_couple) [] [] A.a_is_couple A.d_is_couple
  g_is_couple : mg "is_couple" = some (.ref A.a_is_couple)
  b_is_couple : Binds K A.d_is_couple ["thing"] []
  F_is_colour : FunD K "is_colour" "is_colour" (defArgs s_is_colour) (defBody s_is_colour) (defScope s_is_colour) [] [] A.a_is_colour A.d_is_colour
  g_is_colour : mg "is_colour" = some (.ref A.a_is_colour)
  b_is_colour : Binds K A.d_is_colour ["thing"] []
  F_wrong_colour : FunD K "wrong_colour" "wrong_colour" (defArgs s_wrong_colour) (defBody s_wrong_colour) (defScope s_wrong_colour) [] [] A.a_wrong_colour A.d_wrong_colour
  g_wrong_colour : mg "wrong_colour" = some (.ref A.a_wrong_colour)
  b_wrong_colour : Binds K A.d_wrong_colour ["row"] []
  F_check_marks : FunD K "check_marks" "check_marks" (defArgs s_check_marks) (defBody s_check_marks) (defScope s_check_marks) [] [] A.a_check_marks A.d_check_marks
  g_check_marks : mg "check_marks" = some (.ref A.a_check_marks)
  b_check_marks : Binds K A.d_check_marks ["marks"] []
  F_check_script : FunD K "check_script" "check_script" (defArgs s_check_script) (defBody s_check_script) (defScope s_check_script) [] [] A.a_check_script A.d_check_script
  g_check_script : mg "check_script" = some (.ref A.a_check_script)
  b_check_script : Binds K A.d_check_script ["marks", "script"] []
  F__pour_fault : FunD K "_pour_fault" "_pour_fault" (defArgs s__pour_fault) (defBody s__pour_fault) (defScope s__pour_fault) [] [] A.a__pour_fault A.d__pour_fault
  g__pour_fault : mg "_pour_fault" = some (.ref A.a__pour_fault)
  b__pour_fault : Binds K A.d__pour_fault ["marks", "pour"] []
  F_check_firsts : FunD K "check_firsts" "check_firsts" (defArgs s_check_firsts) (defBody s_check_firsts) (defScope s_check_firsts) [] [] A.a_check_firsts A.d_check_firsts
  g_check_firsts : mg "check_firsts" = some (.ref A.a_check_firsts)
  b_check_firsts : Binds K A.d_check_firsts ["marks", "firsts"] []
  F__is_due : FunD K "_is_due" "_is_due" (defArgs s__is_due) (defBody s__is_due) (defScope s__is_due) [] [] A.a__is_due A.d__is_due
  g__is_due : mg "_is_due" = some (.ref A.a__is_due)
  b__is_due : Binds K A.d__is_due ["many", "marks"] []
  F_check_sights : FunD K "check_sights" "check_sights" (defArgs s_check_sights) (defBody s_check_sights) (defScope s_check_sights) [.int 3] [] A.a_check_sights A.d_check_sights
  g_check_sights : mg "check_sights" = some (.ref A.a_check_sights)
  b_check_sights : Binds K A.d_check_sights ["firsts", "sights", "most"] []
  b_check_sights_2 : ∃ ds, Vals [.int 3] ds ∧ Binds K A.d_check_sights ["firsts", "sights", "most"] ds
  kw_check_sights_most : ∃ its : List Value, KBn K A.d_check_sights ["firsts", "sights", "most"] 2 ["most"] (fun us ws => us ++ ws) (fun vs zs => vs ++ zs)
  F__sight_fault : FunD K "_sight_fault" "_sight_fault" (defArgs s__sight_fault) (defBody s__sight_fault) (defScope s__sight_fault) [] [] A.a__sight_fault A.d__sight_fault
  g__sight_fault : mg "_sight_fault" = some (.ref A.a__sight_fault)
  b__sight_fault : Binds K A.d__sight_fault ["firsts", "sight"] []
  F__is_row : FunD K "_is_row" "_is_row" (defArgs s__is_row) (defBody s__is_row) (defScope s__is_row) [] [] A.a__is_row A.d__is_row
  g__is_row : mg "_is_row" = some (.ref A.a__is_row)
  b__is_row : Binds K A.d__is_row ["marks", "row"] []
  F__law_hand : FunD K "_law_hand" "_law_hand" (defArgs s__law_hand) (defBody s__law_hand) (defScope s__law_hand) [] [] A.a__law_hand A.d__law_hand
  g__law_hand : mg "_law_hand" = some (.ref A.a__law_hand)
  b__law_hand : Binds K A.d__law_hand ["_law_script"] []
  F__law_mixed : FunD K "_law_mixed" "_law_mixed" (defArgs s__law_mixed) (defBody s__law_mixed) (defScope s__law_mixed) [] [] A.a__law_mixed A.d__law_mixed
  g__law_mixed : mg "_law_mixed" = some (.ref A.a__law_mixed)
  b__law_mixed : Binds K A.d__law_mixed ["_law_number_here", "_law_turn"] []
  F__law_take : FunD K "_law_take" "_law_take" (defArgs s__law_take) (defBody s__law_take) (defScope s__law_take) [] [] A.a__law_take A.d__law_take
  g__law_take : mg "_law_take" = some (.ref A.a__law_take)
  b__law_take : Binds K A.d__law_take ["_law_hand_here", "_law_many"] []
  F__law_colour : FunD K "_law_colour" "_law_colour" (defArgs s__law_colour) (defBody s__law_colour) (defScope s__law_colour) [] [] A.a__law_colour A.d__law_colour
  g__law_colour : mg "_law_colour" = some (.ref A.a__law_colour)
  b__law_colour : Binds K A.d__law_colour ["_law_hand_here"] []
  F__law_tuples : FunD K "_law_tuples" "_law_tuples" (defArgs s__law_tuples) (defBody s__law_tuples) (defScope s__law_tuples) [] [] A.a__law_tuples A.d__law_tuples
  g__law_tuples : mg "_law_tuples" = some (.ref A.a__law_tuples)
  b__law_tuples : Binds K A.d__law_tuples ["_law_thing"] []
  F__law_bare : FunD K "_law_bare" "_law_bare" (defArgs s__law_bare) (defBody s__law_bare) (defScope s__law_bare) [] [] A.a__law_bare A.d__law_bare
  g__law_bare : mg "_law_bare" = some (.ref A.a__law_bare)
  b__law_bare : Binds K A.d__law_bare ["_law_thing"] []
  F__law_lists : FunD K "_law_lists" "_law_lists" (defArgs s__law_lists) (defBody s__law_lists) (defScope s__law_lists) [] [] A.a__law_lists A.d__law_lists
  g__law_lists : mg "_law_lists" = some (.ref A.a__law_lists)
  b__law_lists : Binds K A.d__law_lists ["_law_hand_here", "_law_thing"] []
  F__law_odd : FunD K "_law_odd" "_law_odd" (defArgs s__law_odd) (defBody s__law_odd) (defScope s__law_odd) [] [] A.a__law_odd A.d__law_odd
  g__law_odd : mg "_law_odd" = some (.ref A.a__law_odd)
  b__law_odd : Binds K A.d__law_odd ["_law_hand_here", "_law_bound"] []
  F__law_rid : FunD K "_law_rid" "_law_rid" (defArgs s__law_rid) (defBody s__law_rid) (defScope s__law_rid) [] [] A.a__law_rid A.d__law_rid
  g__law_rid : mg "_law_rid" = some (.ref A.a__law_rid)
  b__law_rid : Binds K A.d__law_rid ["_law_hand_here"] []
  F__law_asked : FunD K "_law_asked" "_law_asked" (defArgs s__law_asked) (defBody s__law_asked) (defScope s__law_asked) [] [] A.a__law_asked A.d__law_asked
  g__law_asked : mg "_law_asked" = some (.ref A.a__law_asked)
  b__law_asked : Binds K A.d__law_asked ["_law_firsts", "_law_sights", "_law_upto"] []
  F__law_number : FunD K "_law_number" "_law_number" (defArgs s__law_number) (defBody s__law_number) (defScope s__law_number) [] [] A.a__law_number A.d__law_number
  g__law_number : mg "_law_number" = some (.ref A.a__law_number)
  b__law_number : Binds K A.d__law_number ["_law_thing", "_law_upto"] []
  F__law_hues : FunD K "_law_hues" "_law_hues" (defArgs s__law_hues) (defBody s__law_hues) (defScope s__law_hues) [] [] A.a__law_hues A.d__law_hues
  g__law_hues : mg "_law_hues" = some (.ref A.a__law_hues)
  b__law_hues : Binds K A.d__law_hues ["_law_thing", "_law_many"] []
  F__law_pours : FunD K "_law_pours" "_law_pours" (defArgs s__law_pours) (defBody s__law_pours) (defScope s__law_pours) [] [] A.a__law_pours A.d__law_pours
  g__law_pours : mg "_law_pours" = some (.ref A.a__law_pours)
  b__law_pours : Binds K A.d__law_pours ["_law_thing", "_law_many"] []
  F__law_due : FunD K "_law_due" "_law_due" (defArgs s__law_due) (defBody s__law_due) (defScope s__law_due) [] [] A.a__law_due A.d__law_due
  g__law_due : mg "_law_due" = some (.ref A.a__law_due)
  b__law_due : Binds K A.d__law_due ["_law_firsts", "_law_sights", "_law_upto"] []
  F__law_cracked : FunD K "_law_cracked" "_law_cracked" (defArgs s__law_cracked) (defBody s__law_cracked) (defScope s__law_cracked) [] [] A.a__law_cracked A.d__law_cracked
  g__law_cracked : mg "_law_cracked" = some (.ref A.a__law_cracked)
  b__law_cracked : Binds K A.d__law_cracked ["_law_hand_here", "_law_script", "_law_many"] []
  F__law_torn : FunD K "_law_torn" "_law_torn" (defArgs s__law_torn) (defBody s__law_torn) (defScope s__law_torn) [] [] A.a__law_torn A.d__law_torn
  g__law_torn : mg "_law_torn" = some (.ref A.a__law_torn)
  b__law_torn : Binds K A.d__law_torn ["_law_hand_here", "_law_rows"] []
  F__law_wrong : FunD K "_law_wrong" "_law_wrong" (defArgs s__law_wrong) (defBody s__law_wrong) (defScope s__law_wrong) [] [] A.a__law_wrong A.d__law_wrong
  g__law_wrong : mg "_law_wrong" = some (.ref A.a__law_wrong)
  b__law_wrong : Binds K A.d__law_wrong ["_law_hand_here", "_law_sight", "_law_many"] []
  F__law_begun : FunD K "_law_begun" "_law_begun" (defArgs s__law_begun) (defBody s__law_begun) (defScope s__law_begun) [] [] A.a__law_begun A.d__law_begun
  g__law_begun : mg "_law_begun" = some (.ref A.a__law_begun)
  b__law_begun : Binds K A.d__law_begun ["_law_hand_here", "_law_firsts"] []
  F_law : FunD K "law" "law" (defArgs s_law) (defBody s_law) (defScope s_law) [] [] A.a_law A.d_law
  g_law : mg "law" = some (.ref A.a_law)
  b_law : Binds K A.d_law ["_law_script"] []
  o_BadMarks : OexC K A.c_BadMarks
  x_BadMarks : XfC K A.c_BadMarks
  g_BadMarks : mg "BadMarks" = some (.ref A.c_BadMarks)
  i_BadMarks : PySem.W.findIn K (.ref A.c_BadMarks) "__init__" = some (some (.ref A.i_BadMarks))
  t_BadMarks : PySem.W.typeIn K (.ref A.i_BadMarks) = some (.type "function")
  FI_BadMarks : FunD K "__init__" "BadMarks.__init__" (defArgs s_BadMarks) (defBody s_BadMarks) (defScope s_BadMarks) [] [] A.i_BadMarks A.di_BadMarks
  bi_BadMarks : Binds K A.di_BadMarks ["self", "marks"] []
  h_BadMarks_marks : PySem.W.findIn K (.ref A.c_BadMarks) "marks" = some none
  o_BadScript : OexC K A.c_BadScript
  x_BadScript : XfC K A.c_BadScript
  g_BadScript : mg "BadScript" = some (.ref A.c_BadScript)
  i_BadScript : PySem.W.findIn K (.ref A.c_BadScript) "__init__" = some (some (.ref A.i_BadScript))
  t_BadScript : PySem.W.typeIn K (.ref A.i_BadScript) = some (.type "function")
  FI_BadScript : FunD K "__init__" "BadScript.__init__" (defArgs s_BadScript) (defBody s_BadScript) (defScope s_BadScript) [] [] A.i_BadScript A.di_BadScript
  bi_BadScript : Binds K A.di_BadScript ["self", "index", "what"] []
  h_BadScript_index : PySem.W.findIn K (.ref A.c_BadScript) "index" = some none
  h_BadScript_what : PySem.W.findIn K (.ref A.c_BadScript) "what" = some none
  o_BadFirsts : OexC K A.c_BadFirsts
  x_BadFirsts : XfC K A.c_BadFirsts
  g_BadFirsts : mg "BadFirsts" = some (.ref A.c_BadFirsts)
  i_BadFirsts : PySem.W.findIn K (.ref A.c_BadFirsts) "__init__" = some (some (.ref A.i_BadFirsts))
  t_BadFirsts : PySem.W.typeIn K (.ref A.i_BadFirsts) = some (.type "function")
  FI_BadFirsts : FunD K "__init__" "BadFirsts.__init__" (defArgs s_BadFirsts) (defBody s_BadFirsts) (defScope s_BadFirsts) [] [] A.i_BadFirsts A.di_BadFirsts
  bi_BadFirsts : Binds K A.di_BadFirsts ["self", "index"] []
  h_BadFirsts_index : PySem.W.findIn K (.ref A.c_BadFirsts) "index" = some none
  o_BadSight : OexC K A.c_BadSight
  x_BadSight : XfC K A.c_BadSight
  g_BadSight : mg "BadSight" = some (.ref A.c_BadSight)
  i_BadSight : PySem.W.findIn K (.ref A.c_BadSight) "__init__" = some (some (.ref A.i_BadSight))
  t_BadSight : PySem.W.typeIn K (.ref A.i_BadSight) = some (.type "function")
  FI_BadSight : FunD K "__init__" "BadSight.__init__" (defArgs s_BadSight) (defBody s_BadSight) (defScope s_BadSight) [] [] A.i_BadSight A.di_BadSight
  bi_BadSight : Binds K A.di_BadSight ["self", "index", "what"] []
  h_BadSight_index : PySem.W.findIn K (.ref A.c_BadSight) "index" = some none
  h_BadSight_what : PySem.W.findIn K (.ref A.c_BadSight) "what" = some none
  base : BaseC K mg "HueError" A.c_HueError
  n_abs : mg "abs" = none
  n_all : mg "all" = none
  n_bool : mg "bool" = none
  n_enumerate : mg "enumerate" = none
  n_int : mg "int" = none
  n_isinstance : mg "isinstance" = none
  n_len : mg "len" = none
  n_list : mg "list" = none
  n_range : mg "range" = none
  n_tuple : mg "tuple" = none
  k_MOST_COLOUR : ∃ t, mg "MOST_COLOUR" = some (.int 99 t)
  k_MOST_POURS : ∃ t, mg "MOST_POURS" = some (.int 12 t)
  k_MOST_MARKS : ∃ t, mg "MOST_MARKS" = some (.int 4 t)
  k_MOST_SIGHTS : ∃ t, mg "MOST_SIGHTS" = some (.int 3 t)
  ex : ∀ c c', c < 4 → c' < 4 → PySem.W.exmOne K (.ref ((Zo K A).cl c)) (.ref ((Zo K A).cl c')) = some (decide (c = c'))
def ok_i_BadMarks : List V → Prop
  | [v0] => True
  | _ => False
noncomputable def okD_BadMarks : List D → Bool
  | [v0] => true
  | _ => false
def ok_i_BadScript : List V → Prop
  | [v0, v1] => fmtV v1 ∧ fmtV v0
  | _ => False
noncomputable def okD_BadScript : List D → Bool
  | [v0, v1] => fmtD v1 && fmtD v0
  | _ => false
def ok_i_BadFirsts : List V → Prop
  | [v0] => fmtV v0
  | _ => False
noncomputable def okD_BadFirsts : List D → Bool
  | [v0] => fmtD v0
  | _ => false
def ok_i_BadSight : List V → Prop
  | [v0, v1] => fmtV v1 ∧ fmtV v0
  | _ => False
noncomputable def okD_BadSight : List D → Bool
  | [v0, v1] => fmtD v1 && fmtD v0
  | _ => false
noncomputable def m_is_whole (S : Type) : List D → MS S D
  | [a_thing, a_low, a_high] => bnd (bnd (bnd (bnd (bnd (ret a_thing) fun x3 => lft (oIsA .int x3)) fun x4 => lft (tru x4)) fun b5 => ret (!b5)) fun b6 => if b6 = true then ret true else bnd (bnd (ret a_thing) fun x1 => lft (oIsA .bool x1)) fun x2 => lft (tru x2)) fun b7 => if b7 = true then ret (.bl false) else bnd (bnd (bnd (bnd (ret a_low) fun x11 => bnd (ret .non) fun x12 => lft (oNis x11 x12)) fun x13 => lft (asB x13)) fun b14 => if b14 = true then bnd (bnd (ret a_thing) fun x8 => bnd (ret a_low) fun x9 => lft (oLt x8 x9)) fun x10 => lft (asB x10) else ret false) fun b15 => if b15 = true then ret (.bl false) else bnd (bnd (ret a_high) fun x18 => bnd (ret .non) fun x19 => lft (oIs x18 x19)) fun x20 => bnd (lft (asB x20)) fun b21 => if b21 = true then ret (.bl true) else bnd (ret a_thing) fun x16 => bnd (ret a_high) fun x17 => lft (oLe x16 x17)
  | _ => stk
noncomputable def m_is_sequence (S : Type) : List D → MS S D
  | [a_thing] => bnd (ret a_thing) fun x1 => lft (oIsAs [.list, .tuple] x1)
  | _ => stk
noncomputable def m_is_couple (S : Type) : List D → MS S D
  | [a_thing] => bnd (bnd (bnd (ret a_thing) fun x4 => bnd (ret []) fun ds5 => ret (x4 :: ds5)) fun ds6 => m_is_sequence S (ds6 ++ [])) fun x7 => bnd (lft (asB x7)) fun b8 => if b8 = true then bnd (bnd (ret a_thing) fun x1 => lft (oLen x1)) fun x2 => bnd (ret (.int 2)) fun x3 => lft (oEq x2 x3) else ret (.bl false)
  | _ => stk
noncomputable def m_is_colour (S : Type) : List D → MS S D
  | [a_thing] => bnd (bnd (ret a_thing) fun x5 => bnd (bnd (ret (.int 0)) fun x3 => bnd (bnd (ret (.int 99)) fun x1 => bnd (ret []) fun ds2 => ret (x1 :: ds2)) fun ds4 => ret (x3 :: ds4)) fun ds6 => ret (x5 :: ds6)) fun ds7 => m_is_whole S (ds7 ++ [])
  | _ => stk
noncomputable def m_wrong_colour (S : Type) : List D → MS S D
  | [a_row] => bnd (bnd (bnd (ret a_row) fun x11 => lft ((items x11).map (numb 0))) fun ds10 => forF un2 (fun (t3 : D × D) (s2 : Unit) => bnd (bnd (bnd (bnd (bnd (ret t3.2) fun x4 => bnd (ret []) fun ds5 => ret (x4 :: ds5)) fun ds6 => m_is_colour S (ds6 ++ [])) fun x7 => lft (tru x7)) fun b8 => ret (!b8)) fun b9 => if b9 = true then bnd (ret t3.1) fun a => ret (Fl.rt a) else bnd (ret ()) fun _ => ret (Fl.nx ())) ds10 ()) (frD fun s2 => ret .non)
  | _ => stk
noncomputable def m_check_marks (S : Type) : List D → MS S D
  | [a_marks] => bnd (bnd (bnd (bnd (bnd (ret a_marks) fun x5 => bnd (bnd (ret (.int 1)) fun x3 => bnd (bnd (ret (.int 4)) fun x1 => bnd (ret []) fun ds2 => ret (x1 :: ds2)) fun ds4 => ret (x3 :: ds4)) fun ds6 => ret (x5 :: ds6)) fun ds7 => m_is_whole S (ds7 ++ [])) fun x8 => lft (tru x8)) fun b9 => ret (!b9)) fun b10 => if b10 = true then bnd (bnd (ret a_marks) fun x11 => bnd (ret []) fun ds12 => ret (x11 :: ds12)) fun ds13 => if okD_BadMarks ds13 = true then rse 0 ds13.reverse else stk else ret a_marks
  | _ => stk
noncomputable def m__pour_fault (S : Type) : List D → MS S D
  | [a_marks, a_pour] => bnd (bnd (bnd (bnd (bnd (ret a_pour) fun x1 => bnd (ret []) fun ds2 => ret (x1 :: ds2)) fun ds3 => m_is_couple S (ds3 ++ [])) fun x4 => lft (tru x4)) fun b5 => ret (!b5)) fun b6 => if b6 = true then ret (.str "pour") else bnd (bnd (bnd (bnd (bnd (bnd (ret a_pour) fun x13 => bnd (ret (.int 0)) fun x14 => lft (oIx x13 x14)) fun x15 => bnd (bnd (ret (.int 0)) fun x11 => bnd (bnd (bnd (ret a_marks) fun x7 => bnd (ret (.int 1)) fun x8 => lft (oSub x7 x8)) fun x9 => bnd (ret []) fun ds10 => ret (x9 :: ds10)) fun ds12 => ret (x11 :: ds12)) fun ds16 => ret (x15 :: ds16)) fun ds17 => m_is_whole S (ds17 ++ [])) fun x18 => lft (tru x18)) fun b19 => ret (!b19)) fun b20 => if b20 = true then ret (.str "mark") else bnd (bnd (bnd (bnd (bnd (bnd (ret a_pour) fun x21 => bnd (ret (.int 1)) fun x22 => lft (oIx x21 x22)) fun x23 => bnd (ret []) fun ds24 => ret (x23 :: ds24)) fun ds25 => m_is_colour S (ds25 ++ [])) fun x26 => lft (tru x26)) fun b27 => ret (!b27)) fun b28 => if b28 = true then ret (.str "colour") else ret .non
  | _ => stk
noncomputable def m_check_script (S : Type) : List D → MS S D
  | [a_marks, a_script] => bnd (bnd (bnd (ret a_marks) fun x1 => bnd (ret []) fun ds2 => ret (x1 :: ds2)) fun ds3 => m_check_marks S (ds3 ++ [])) fun _ => bnd (bnd (bnd (bnd (bnd (bnd (ret a_script) fun x8 => bnd (ret []) fun ds9 => ret (x8 :: ds9)) fun ds10 => m_is_sequence S (ds10 ++ [])) fun x11 => lft (tru x11)) fun b12 => ret (!b12)) fun b13 => if b13 = true then ret true else bnd (bnd (bnd (ret a_script) fun x4 => lft (oLen x4)) fun x5 => bnd (ret (.int 12)) fun x6 => lft (oGt x5 x6)) fun x7 => lft (asB x7)) fun b14 => if b14 = true then bnd (bnd (ret (.int 0)) fun x17 => bnd (bnd (ret (.str "many")) fun x15 => bnd (ret []) fun ds16 => ret (x15 :: ds16)) fun ds18 => ret (x17 :: ds18)) fun ds19 => if okD_BadScript ds19 = true then rse 1 ds19.reverse else stk else bnd (bnd (bnd (ret a_script) fun x46 => lft ((items x46).map (numb 0))) fun ds45 => forN un2 (fun (t22 : D × D) (s21 : Unit) => bnd (bnd (bnd (ret a_marks) fun x26 => bnd (bnd (ret t22.2) fun x24 => bnd (ret []) fun ds25 => ret (x24 :: ds25)) fun ds27 => ret (x26 :: ds27)) fun ds28 => m__pour_fault S (ds28 ++ [])) fun v_fault_23 => bnd (bnd (bnd (ret v_fault_23) fun x29 => bnd (ret .non) fun x30 => lft (oNis x29 x30)) fun x31 => lft (asB x31)) fun b32 => if b32 = true then bnd (bnd (ret t22.1) fun x35 => bnd (bnd (ret v_fault_23) fun x33 => bnd (ret []) fun ds34 => ret (x33 :: ds34)) fun ds36 => ret (x35 :: ds36)) fun ds37 => if okD_BadScript ds37 = true then rse 1 ds37.reverse else stk else bnd (ret ()) fun _ => ret ()) ds45 ()) fun s21 => bnd (bnd (bnd (bnd (ret a_script) fun x38 => lft (items x38)) fun ds41 => bnd (lft (mkL ds41)) fun ds42 => lcM un1 (fun t39 => ret true) (fun t39 => bnd (ret t39) fun x40 => lft (oTuple x40)) ds42) fun ds43 => ret (.lst ds43)) fun x44 => lft (oTuple x44)
  | _ => stk
noncomputable def m__is_due (S : Type) : List D → MS S D
  | [a_many, a_marks] => bnd (bnd (bnd (ret a_marks) fun x1 => bnd (ret .non) fun x2 => lft (oIs x1 x2)) fun x3 => lft (asB x3)) fun b4 => if b4 = true then bnd (ret (.int 1)) fun x5 => bnd (ret a_many) fun x6 => bnd (lft ((oLe x5 x6).bind asB)) fun k7 => if k7 = true then bnd (ret (.int 4)) fun x8 => lft (oLe x6 x8) else ret (.bl false) else bnd (ret a_many) fun x9 => bnd (ret a_marks) fun x10 => lft (oEq x9 x10)
  | _ => stk
noncomputable def m_check_firsts (S : Type) : List D → MS S D
  | [a_marks, a_firsts] => bnd (bnd (bnd (bnd (ret a_marks) fun x1 => bnd (ret .non) fun x2 => lft (oNis x1 x2)) fun x3 => lft (asB x3)) fun b4 => if b4 = true then bnd (bnd (bnd (ret a_marks) fun x6 => bnd (ret []) fun ds7 => ret (x6 :: ds7)) fun ds8 => m_check_marks S (ds8 ++ [])) fun _ => bnd (ret ()) fun _ => ret () else bnd (ret ()) fun _ => ret ()) fun s5 => bnd (bnd (bnd (bnd (bnd (bnd (ret a_firsts) fun x17 => bnd (ret []) fun ds18 => ret (x17 :: ds18)) fun ds19 => m_is_sequence S (ds19 ++ [])) fun x20 => lft (tru x20)) fun b21 => ret (!b21)) fun b22 => if b22 = true then ret true else bnd (bnd (bnd (bnd (bnd (ret a_firsts) fun x11 => lft (oLen x11)) fun x12 => bnd (bnd (ret a_marks) fun x9 => bnd (ret []) fun ds10 => ret (x9 :: ds10)) fun ds13 => ret (x12 :: ds13)) fun ds14 => m__is_due S (ds14 ++ [])) fun x15 => lft (tru x15)) fun b16 => ret (!b16)) fun b23 => if b23 = true then bnd (bnd (ret (.int 0)) fun x24 => bnd (ret []) fun ds25 => ret (x24 :: ds25)) fun ds26 => if okD_BadFirsts ds26 = true then rse 2 ds26.reverse else stk else bnd (bnd (bnd (ret a_firsts) fun x28 => bnd (ret []) fun ds29 => ret (x28 :: ds29)) fun ds30 => m_wrong_colour S (ds30 ++ [])) fun v_wrong_27 => bnd (bnd (bnd (ret v_wrong_27) fun x31 => bnd (ret .non) fun x32 => lft (oNis x31 x32)) fun x33 => lft (asB x33)) fun b34 => if b34 = true then bnd (bnd (ret v_wrong_27) fun x35 => bnd (ret []) fun ds36 => ret (x35 :: ds36)) fun ds37 => if okD_BadFirsts ds37 = true then rse 2 ds37.reverse else stk else bnd (ret a_firsts) fun x38 => lft (oTuple x38)
  | _ => stk
noncomputable def m__is_row (S : Type) : List D → MS S D
  | [a_marks, a_row] => bnd (tryM 4 (bnd (bnd (bnd (ret a_marks) fun x4 => bnd (bnd (ret a_row) fun x2 => bnd (ret []) fun ds3 => ret (x2 :: ds3)) fun ds5 => ret (x4 :: ds5)) fun ds6 => m_check_firsts S (ds6 ++ [])) fun _ => bnd (ret ()) fun _ => ret (Fr.nx ())) [(2, fun fs7 => bnd (ret (.bl false)) fun a => ret (Fr.rt a))]) (frD fun s1 => ret (.bl true))
  | _ => stk
noncomputable def m__sight_fault (S : Type) : List D → MS S D
  | [a_firsts, a_sight] => bnd (bnd (bnd (bnd (bnd (ret a_sight) fun x1 => bnd (ret []) fun ds2 => ret (x1 :: ds2)) fun ds3 => m_is_couple S (ds3 ++ [])) fun x4 => lft (tru x4)) fun b5 => ret (!b5)) fun b6 => if b6 = true then ret (.str "sight") else bnd (bnd (ret a_sight) fun x8 => lft (un2s x8)) fun t7 => bnd (tryM 4 (bnd (bnd (bnd (bnd (ret a_firsts) fun x12 => lft (oLen x12)) fun x13 => bnd (bnd (ret t7.1) fun x10 => bnd (ret []) fun ds11 => ret (x10 :: ds11)) fun ds14 => ret (x13 :: ds14)) fun ds15 => m_check_script S (ds15 ++ [])) fun _ => bnd (ret ()) fun _ => ret (Fr.nx ())) [(1, fun fs16 => bnd (ret (.str "script")) fun a => ret (Fr.rt a))]) (frD fun s9 => bnd (bnd (bnd (bnd (bnd (bnd (ret t7.2) fun x24 => bnd (ret []) fun ds25 => ret (x24 :: ds25)) fun ds26 => m_is_sequence S (ds26 ++ [])) fun x27 => lft (tru x27)) fun b28 => ret (!b28)) fun b29 => if b29 = true then ret true else bnd (bnd (bnd (ret t7.2) fun x17 => lft (oLen x17)) fun x21 => bnd (bnd (bnd (ret t7.1) fun x18 => lft (oLen x18)) fun x19 => bnd (ret (.int 1)) fun x20 => lft (oAdd x19 x20)) fun x22 => lft (oNe x21 x22)) fun x23 => lft (asB x23)) fun b30 => if b30 = true then ret (.str "rows") else bnd (bnd (bnd (bnd (bnd (bnd (bnd (ret t7.2) fun x31 => lft (items x31)) fun ds39 => bnd (lft (mkL ds39)) fun ds40 => lcM un1 (fun t32 => ret true) (fun t32 => bnd (bnd (bnd (ret a_firsts) fun x35 => lft (oLen x35)) fun x36 => bnd (bnd (ret t32) fun x33 => bnd (ret []) fun ds34 => ret (x33 :: ds34)) fun ds37 => ret (x36 :: ds37)) fun ds38 => m__is_row S (ds38 ++ [])) ds40) fun ds41 => ret (.lst ds41)) fun x42 => lft (oAll x42)) fun x43 => lft (tru x43)) fun b44 => ret (!b44)) fun b45 => if b45 = true then ret (.str "rows") else bnd (bnd (bnd (bnd (bnd (ret t7.2) fun x46 => bnd (ret (.int 0)) fun x47 => lft (oIx x46 x47)) fun x48 => lft (oTuple x48)) fun x49 => bnd (ret a_firsts) fun x50 => lft (oEq x49 x50)) fun x51 => lft (asB x51)) fun b52 => if b52 = true then ret .non else ret (.str "firsts"))
  | _ => stk
noncomputable def m_check_sights (S : Type) : List D → MS S D
  | [a_firsts, a_sights, a_most] => bnd (bnd (bnd (ret .non) fun x4 => bnd (bnd (ret a_firsts) fun x2 => bnd (ret []) fun ds3 => ret (x2 :: ds3)) fun ds5 => ret (x4 :: ds5)) fun ds6 => m_check_firsts S (ds6 ++ [])) fun v_starts_1 => bnd (bnd (bnd (bnd (bnd (bnd (ret a_sights) fun x11 => bnd (ret []) fun ds12 => ret (x11 :: ds12)) fun ds13 => m_is_sequence S (ds13 ++ [])) fun x14 => lft (tru x14)) fun b15 => ret (!b15)) fun b16 => if b16 = true then ret true else bnd (bnd (bnd (ret a_sights) fun x7 => lft (oLen x7)) fun x8 => bnd (ret a_most) fun x9 => lft (oGt x8 x9)) fun x10 => lft (asB x10)) fun b17 => if b17 = true then bnd (bnd (ret (.int 0)) fun x20 => bnd (bnd (ret (.str "many")) fun x18 => bnd (ret []) fun ds19 => ret (x18 :: ds19)) fun ds21 => ret (x20 :: ds21)) fun ds22 => if okD_BadSight ds22 = true then rse 3 ds22.reverse else stk else bnd (bnd (bnd (ret a_sights) fun x66 => lft ((items x66).map (numb 0))) fun ds65 => forN un2 (fun (t25 : D × D) (s24 : Unit) => bnd (bnd (bnd (ret v_starts_1) fun x29 => bnd (bnd (ret t25.2) fun x27 => bnd (ret []) fun ds28 => ret (x27 :: ds28)) fun ds30 => ret (x29 :: ds30)) fun ds31 => m__sight_fault S (ds31 ++ [])) fun v_word_26 => bnd (bnd (bnd (ret v_word_26) fun x32 => bnd (ret .non) fun x33 => lft (oNis x32 x33)) fun x34 => lft (asB x34)) fun b35 => if b35 = true then bnd (bnd (ret t25.1) fun x38 => bnd (bnd (ret v_word_26) fun x36 => bnd (ret []) fun ds37 => ret (x36 :: ds37)) fun ds39 => ret (x38 :: ds39)) fun ds40 => if okD_BadSight ds40 = true then rse 3 ds40.reverse else stk else bnd (ret ()) fun _ => ret ()) ds65 ()) fun s24 => bnd (bnd (bnd (bnd (ret a_sights) fun x41 => lft (items x41)) fun ds61 => bnd (lft (mkL ds61)) fun ds62 => lcM un2s (fun t42 => ret true) (fun t42 => bnd (bnd (bnd (bnd (bnd (ret v_starts_1) fun x54 => lft (oLen x54)) fun x55 => bnd (bnd (ret t42.1) fun x52 => bnd (ret []) fun ds53 => ret (x52 :: ds53)) fun ds56 => ret (x55 :: ds56)) fun ds57 => m_check_script S (ds57 ++ [])) fun x58 => bnd (bnd (bnd (bnd (bnd (bnd (ret t42.2) fun x43 => lft (items x43)) fun ds46 => bnd (lft (mkL ds46)) fun ds47 => lcM un1 (fun t44 => ret true) (fun t44 => bnd (ret t44) fun x45 => lft (oTuple x45)) ds47) fun ds48 => ret (.lst ds48)) fun x49 => lft (oTuple x49)) fun x50 => bnd (ret []) fun ds51 => ret (x50 :: ds51)) fun ds59 => ret (x58 :: ds59)) fun ds60 => lft ((mkL ds60).map D.tup)) ds62) fun ds63 => ret (.lst ds63)) fun x64 => lft (oTuple x64)
  | _ => stk
noncomputable def m__law_mixed (S : Type) : List D → MS S D
  | [a_number_here, a_turn] => bnd (bnd (bnd (bnd (bnd (bnd (ret a_number_here) fun x2 => bnd (ret (.int 69621)) fun x3 => lft (oMul x2 x3)) fun x6 => bnd (bnd (ret a_turn) fun x4 => bnd (ret (.int 7907)) fun x5 => lft (oMul x4 x5)) fun x7 => lft (oAdd x6 x7)) fun x8 => bnd (ret (.int 40503)) fun x9 => lft (oAdd x8 x9)) fun x10 => lft (oIntOf x10)) fun x11 => bnd (ret (.int 2147483647)) fun x12 => lft (oMod x11 x12)) fun v_once_1 => bnd (bnd (bnd (bnd (bnd (bnd (ret v_once_1) fun x14 => bnd (ret v_once_1) fun x15 => lft (oMul x14 x15)) fun x18 => bnd (bnd (ret a_turn) fun x16 => bnd (ret (.int 104723)) fun x17 => lft (oMul x16 x17)) fun x19 => lft (oAdd x18 x19)) fun x22 => bnd (bnd (ret v_once_1) fun x20 => bnd (ret (.int 131)) fun x21 => lft (oDiv x20 x21)) fun x23 => lft (oAdd x22 x23)) fun x24 => lft (oIntOf x24)) fun x25 => bnd (ret (.int 2147483629)) fun x26 => lft (oMod x25 x26)) fun v_twice_13 => bnd (bnd (bnd (bnd (bnd (bnd (ret v_twice_13) fun x27 => bnd (ret (.int 48271)) fun x28 => lft (oMul x27 x28)) fun x31 => bnd (bnd (ret v_once_1) fun x29 => bnd (ret (.int 7)) fun x30 => lft (oDiv x29 x30)) fun x32 => lft (oAdd x31 x32)) fun x33 => lft (oIntOf x33)) fun x34 => bnd (ret (.int 2147483579)) fun x35 => lft (oMod x34 x35)) fun x36 => lft (oIntOf x36)) fun x37 => bnd (ret (.int 32)) fun x38 => lft (oDiv x37 x38)
  | _ => stk
noncomputable def m__law_take (cells : List Int) : List D → MS Hd D
  | [a_many] => bnd (bnd (bnd (bnd (bnd (hget cells 2) fun x5 => bnd (ret (.int 0)) fun x6 => lft (oEq x5 x6)) fun x7 => lft (asB x7)) fun b8 => if b8 = true then bnd (bnd (hget cells 1) fun x2 => bnd (bnd (hget cells 0) fun x1 => lft (oLen x1)) fun x3 => lft (oLt x2 x3)) fun x4 => lft (asB x4) else ret false) fun b9 => if b9 = true then bnd (bnd (hget cells 0) fun x12 => bnd (hget cells 1) fun x13 => lft (oIx x12 x13)) fun v_cell_11 => bnd (bnd (bnd (hget cells 1) fun x14 => bnd (ret (.int 1)) fun x15 => lft (oAdd x14 x15)) fun x16 => hput 1 x16) fun _ => bnd (bnd (bnd (ret v_cell_11) fun x19 => bnd (bnd (ret (.int 10)) fun x17 => bnd (ret (.int 18)) fun x18 => lft (oPow x17 x18)) fun x20 => lft (oLt x19 x20)) fun x21 => lft (asB x21)) fun b22 => if b22 = true then bnd (bnd (bnd (bnd (bnd (bnd (bnd (ret v_cell_11) fun x25 => lft (oIntOf x25)) fun x26 => bnd (ret (.int 2147483647)) fun x27 => lft (oMod x26 x27)) fun x28 => bnd (bnd (hget cells 1) fun x23 => bnd (ret []) fun ds24 => ret (x23 :: ds24)) fun ds29 => ret (x28 :: ds29)) fun ds30 => m__law_mixed Hd (ds30 ++ [])) fun x31 => lft (oIntOf x31)) fun x32 => bnd (ret a_many) fun x33 => lft (oMod x32 x33)) (fun d => ret (Fr.rt d)) else bnd (bnd (ret v_cell_11) fun x34 => hput 2 x34) fun _ => bnd (ret ()) fun _ => ret (Fr.nx ()) else bnd (ret ()) fun _ => ret (Fr.nx ())) (frD fun s10 => bnd (bnd (bnd (hget cells 2) fun x35 => bnd (ret (.int 0)) fun x36 => lft (oGt x35 x36)) fun x37 => lft (asB x37)) fun b38 => if b38 = true then bnd (hget cells 2) fun v_rest_39 => bnd (bnd (bnd (bnd (ret v_rest_39) fun x40 => lft (oIntOf x40)) fun x41 => bnd (ret a_many) fun x42 => lft (oDiv x41 x42)) fun x43 => hput 2 x43) fun _ => bnd (bnd (ret v_rest_39) fun x44 => lft (oIntOf x44)) fun x45 => bnd (ret a_many) fun x46 => lft (oMod x45 x46) else bnd (bnd (bnd (bnd (bnd (hget cells 3) fun x47 => bnd (ret (.int 1)) fun x48 => lft (oAdd x47 x48)) fun x49 => lft (oIntOf x49)) fun x50 => bnd (ret (.int 2147483587)) fun x51 => lft (oMod x50 x51)) fun x52 => hput 3 x52) fun _ => bnd (bnd (bnd (bnd (hget cells 3) fun x55 => bnd (bnd (hget cells 1) fun x53 => bnd (ret []) fun ds54 => ret (x53 :: ds54)) fun ds56 => ret (x55 :: ds56)) fun ds57 => m__law_mixed Hd (ds57 ++ [])) fun x58 => lft (oIntOf x58)) fun x59 => bnd (ret a_many) fun x60 => lft (oMod x59 x60))
  | _ => stk
noncomputable def m__law_colour (cells : List Int) : List D → MS Hd D
  | [] => bnd (bnd (bnd (ret (.int 16)) fun x2 => bnd (ret []) fun ds3 => ret (x2 :: ds3)) fun ds4 => m__law_take cells (ds4 ++ [])) fun v_kind_1 => bnd (bnd (bnd (ret v_kind_1) fun x5 => bnd (ret (.int 0)) fun x6 => lft (oEq x5 x6)) fun x7 => lft (asB x7)) fun b21 => if b21 = true then bnd (bnd (ret (.int 100)) fun x8 => bnd (ret []) fun ds9 => ret (x8 :: ds9)) fun ds10 => m__law_take cells (ds10 ++ []) else bnd (bnd (bnd (ret v_kind_1) fun x11 => bnd (ret (.int 3)) fun x12 => lft (oLt x11 x12)) fun x13 => lft (asB x13)) fun b20 => if b20 = true then bnd (bnd (ret (.int 6)) fun x14 => bnd (ret []) fun ds15 => ret (x14 :: ds15)) fun ds16 => m__law_take cells (ds16 ++ []) else bnd (bnd (ret (.int 3)) fun x17 => bnd (ret []) fun ds18 => ret (x17 :: ds18)) fun ds19 => m__law_take cells (ds19 ++ [])
  | _ => stk
noncomputable def m__law_tuples : Nat → (S : Type) → List D → MS S D
  | 0, _, _ => stk
  | k + 1, S, [a_thing] => bnd (bnd (bnd (ret a_thing) fun x1 => lft (oIsA .tuple x1)) fun x2 => lft (tru x2)) fun b3 => if b3 = true then bnd (bnd (bnd (bnd (ret a_thing) fun x4 => lft (items x4)) fun ds11 => bnd (lft (mkL ds11)) fun ds12 => lcM un1 (fun t5 => bnd (bnd (bnd (bnd (ret t5) fun x6 => bnd (ret []) fun ds7 => ret (x6 :: ds7)) fun ds8 => m__law_tuples k S (ds8 ++ [])) fun x9 => lft (tru x9)) fun b10 => ret (!b10)) (fun t5 => ret (.int 1)) ds12) fun ds13 => ret (.lst ds13)) fun x14 => lft ((tru x14).map fun b => .bl (!b)) else bnd (bnd (ret a_thing) fun x21 => bnd (ret .non) fun x22 => lft (oIs x21 x22)) fun x23 => bnd (lft (asB x23)) fun b24 => if b24 = true then ret (.bl true) else bnd (bnd (ret a_thing) fun x18 => lft (oIsA .int x18)) fun x19 => bnd (lft (asB x19)) fun b20 => if b20 = true then bnd (bnd (ret a_thing) fun x15 => lft (oIsA .bool x15)) fun x16 => bnd (lft (asB x16)) fun b17 => ret (.bl (!b17)) else ret (.bl false)
  | _, _, _ => stk
noncomputable def m__law_bare : Nat → (S : Type) → List D → MS S D
  | 0, _, _ => stk
  | k + 1, S, [a_thing] => bnd (bnd (bnd (ret a_thing) fun x1 => lft (oIsAs [.list, .tuple] x1)) fun x2 => lft (tru x2)) fun b12 => if b12 = true then bnd (bnd (bnd (bnd (ret a_thing) fun x3 => lft (items x3)) fun ds8 => bnd (lft (mkL ds8)) fun ds9 => lcM un1 (fun t4 => ret true) (fun t4 => bnd (bnd (ret t4) fun x5 => bnd (ret []) fun ds6 => ret (x5 :: ds6)) fun ds7 => m__law_bare k S (ds7 ++ [])) ds9) fun ds10 => ret (.lst ds10)) fun x11 => lft (oTuple x11) else ret a_thing
  | _, _, _ => stk
noncomputable def m__law_lists : Nat → (cells : List Int) → List D → MS Hd D
  | 0, _, _ => stk
  | k + 1, cells, [a_thing] => bnd (bnd (bnd (bnd (ret a_thing) fun x1 => lft (oIsAs [.list, .tuple] x1)) fun x2 => lft (tru x2)) fun b3 => ret (!b3)) fun b4 => if b4 = true then ret a_thing else bnd (bnd (bnd (bnd (bnd (ret a_thing) fun x6 => lft (oLen x6)) fun x7 => bnd (ret (.int 40)) fun x8 => lft (oLt x7 x8)) fun x9 => lft (asB x9)) fun b20 => if b20 = true then bnd (bnd (bnd (ret a_thing) fun x10 => lft (items x10)) fun ds15 => bnd (lft (mkL ds15)) fun ds16 => lcM un1 (fun t11 => ret true) (fun t11 => bnd (bnd (ret t11) fun x12 => bnd (ret []) fun ds13 => ret (x12 :: ds13)) fun ds14 => m__law_lists k cells (ds14 ++ [])) ds16) fun ds17 => ret (.lst ds17) else bnd (bnd (ret a_thing) fun x18 => lft (items x18)) fun ds19 => ret (.lst ds19)) fun v_out_5 => bnd (bnd (bnd (bnd (ret (.int 2)) fun x21 => bnd (ret []) fun ds22 => ret (x21 :: ds22)) fun ds23 => m__law_take cells (ds23 ++ [])) fun x24 => lft (tru x24)) fun b26 => if b26 = true then ret v_out_5 else bnd (ret v_out_5) fun x25 => lft (oTuple x25)
  | _, _, _ => stk
noncomputable def m__law_odd (cells : List Int) : List D → MS Hd D
  | [a_bound] => bnd (bnd (bnd (ret (.int 9)) fun x2 => bnd (ret []) fun ds3 => ret (x2 :: ds3)) fun ds4 => m__law_take cells (ds4 ++ [])) fun v_kind_1 => bnd (bnd (bnd (ret v_kind_1) fun x5 => bnd (ret (.int 0)) fun x6 => lft (oEq x5 x6)) fun x7 => lft (asB x7)) fun b8 => if b8 = true then bnd (ret a_bound) fun x14 => bnd (bnd (bnd (bnd (ret (.int 10)) fun x9 => bnd (ret (.int 12)) fun x10 => lft (oPow x9 x10)) fun x11 => bnd (ret []) fun ds12 => ret (x11 :: ds12)) fun ds13 => m__law_take cells (ds13 ++ [])) fun x15 => lft (oAdd x14 x15) else bnd (bnd (bnd (ret v_kind_1) fun x16 => bnd (ret (.int 1)) fun x17 => lft (oEq x16 x17)) fun x18 => lft (asB x18)) fun b19 => if b19 = true then bnd (bnd (ret (.int 1)) fun x20 => lft (oNeg x20)) fun x26 => bnd (bnd (bnd (bnd (ret (.int 10)) fun x21 => bnd (ret (.int 12)) fun x22 => lft (oPow x21 x22)) fun x23 => bnd (ret []) fun ds24 => ret (x23 :: ds24)) fun ds25 => m__law_take cells (ds25 ++ [])) fun x27 => lft (oSub x26 x27) else bnd (bnd (bnd (bnd (ret (.bl true)) fun x45 => bnd (bnd (ret (.bl false)) fun x43 => bnd (bnd (ret .non) fun x41 => bnd (bnd (ret (.str "1")) fun x39 => bnd (bnd (bnd (bnd (ret (.int 0)) fun x34 => bnd (ret []) fun ds35 => ret (x34 :: ds35)) fun ds36 => lft ((mkL ds36).map D.tup)) fun x37 => bnd (bnd (ret (.str "00")) fun x32 => bnd (bnd (ret a_bound) fun x30 => bnd (bnd (ret (.str "")) fun x28 => bnd (ret []) fun ds29 => ret (x28 :: ds29)) fun ds31 => ret (x30 :: ds31)) fun ds33 => ret (x32 :: ds33)) fun ds38 => ret (x37 :: ds38)) fun ds40 => ret (x39 :: ds40)) fun ds42 => ret (x41 :: ds42)) fun ds44 => ret (x43 :: ds44)) fun ds46 => ret (x45 :: ds46)) fun ds47 => lft (mkL ds47)) fun ds48 => ret (.lst ds48)) fun x55 => bnd (bnd (bnd (bnd (ret v_kind_1) fun x49 => bnd (ret (.int 8)) fun x50 => lft (oLt x49 x50)) fun x51 => lft (asB x51)) fun b54 => if b54 = true then bnd (ret v_kind_1) fun x52 => bnd (ret (.int 1)) fun x53 => lft (oSub x52 x53) else ret (.int 6)) fun x56 => lft (oIx x55 x56)
  | _ => stk
noncomputable def m__law_rid (cells : List Int) : List D → MS Hd D
  | [] => bnd (bnd (bnd (bnd (ret .non) fun x12 => bnd (bnd (ret (.int 3)) fun x10 => bnd (bnd (ret (.str "ab")) fun x8 => bnd (bnd (ret (.bl true)) fun x6 => bnd (bnd (ret (.dct [(.inl 0, .int 1)])) fun x4 => bnd (bnd (bnd (ret (.int 1)) fun x1 => lft (oNeg x1)) fun x2 => bnd (ret []) fun ds3 => ret (x2 :: ds3)) fun ds5 => ret (x4 :: ds5)) fun ds7 => ret (x6 :: ds7)) fun ds9 => ret (x8 :: ds9)) fun ds11 => ret (x10 :: ds11)) fun ds13 => ret (x12 :: ds13)) fun ds14 => lft (mkL ds14)) fun ds15 => ret (.lst ds15)) fun x19 => bnd (bnd (bnd (ret (.int 6)) fun x16 => bnd (ret []) fun ds17 => ret (x16 :: ds17)) fun ds18 => m__law_take cells (ds18 ++ [])) fun x20 => lft (oIx x19 x20)
  | _ => stk
noncomputable def m__law_asked (S : Type) : List D → MS S D
  | [a_firsts, a_sights, a_upto] => bnd (tryB 4 (bnd (bnd (bnd (bnd (ret a_upto) fun x3 => bnd (ret .non) fun x4 => lft (oIs x3 x4)) fun x5 => lft (asB x5)) fun b30 => if b30 = true then bnd (bnd (ret a_firsts) fun x8 => bnd (bnd (ret a_sights) fun x6 => bnd (ret []) fun ds7 => ret (x6 :: ds7)) fun ds9 => ret (x8 :: ds9)) fun ds10 => m_check_sights S (ds10 ++ [.int 3]) else bnd (bnd (bnd (ret a_upto) fun x11 => bnd (ret (.int 1)) fun x12 => lft (oGt x11 x12)) fun x13 => lft (asB x13)) fun b29 => if b29 = true then bnd (bnd (ret a_firsts) fun x18 => bnd (bnd (ret a_sights) fun x16 => bnd (bnd (ret a_upto) fun x14 => bnd (ret []) fun ds15 => ret (x14 :: ds15)) fun ds17 => ret (x16 :: ds17)) fun ds19 => ret (x18 :: ds19)) fun ds20 => m_check_sights S (ds20 ++ []) else bnd (bnd (ret a_firsts) fun x23 => bnd (bnd (ret a_sights) fun x21 => bnd (ret []) fun ds22 => ret (x21 :: ds22)) fun ds24 => ret (x23 :: ds24)) fun ds27 => bnd (bnd (ret a_upto) fun x25 => bnd (ret []) fun ds26 => ret (x25 :: ds26)) fun es28 => if ds27.length = 2 ∧ es28.length = 1 then m_check_sights S (ds27 ++ es28) else stk) fun v_found_2 => bnd (ret ()) fun _ => ret (Fr.nx v_found_2)) [(2, fun fs44 => bnd (bnd (bnd (bnd (ret (.str "firsts")) fun x47 => bnd (bnd (lft (fld (fnZ 2) fs44 "index")) fun x45 => bnd (ret []) fun ds46 => ret (x45 :: ds46)) fun ds48 => ret (x47 :: ds48)) fun ds49 => lft (mkL ds49)) fun ds50 => ret (.lst ds50)) fun a => ret (Fr.rt a)), (3, fun fs35 => bnd (bnd (bnd (bnd (ret (.str "sight")) fun x40 => bnd (bnd (lft (fld (fnZ 3) fs35 "index")) fun x38 => bnd (bnd (lft (fld (fnZ 3) fs35 "what")) fun x36 => bnd (ret []) fun ds37 => ret (x36 :: ds37)) fun ds39 => ret (x38 :: ds39)) fun ds41 => ret (x40 :: ds41)) fun ds42 => lft (mkL ds42)) fun ds43 => ret (.lst ds43)) fun a => ret (Fr.rt a))]) (frD fun s1 => ret s1)
  | _ => stk
noncomputable def m__law_number (S : Type) : List D → MS S D
  | [a_thing, a_upto] => bnd (bnd (ret a_thing) fun x10 => lft (oIsA .int x10)) fun x11 => bnd (lft (asB x11)) fun b12 => if b12 = true then bnd (bnd (bnd (ret a_thing) fun x5 => lft (oIsA .bool x5)) fun x6 => bnd (lft (asB x6)) fun b7 => ret (.bl (!b7))) fun x8 => bnd (lft (asB x8)) fun b9 => if b9 = true then bnd (ret (.int 0)) fun x1 => bnd (ret a_thing) fun x2 => bnd (lft ((oLe x1 x2).bind asB)) fun k3 => if k3 = true then bnd (ret a_upto) fun x4 => lft (oLe x2 x4) else ret (.bl false) else ret (.bl false) else ret (.bl false)
  | _ => stk
noncomputable def m__law_hues (S : Type) : List D → MS S D
  | [a_thing, a_many] => bnd (bnd (bnd (bnd (bnd (ret a_thing) fun x5 => lft (oIsAs [.list, .tuple] x5)) fun x6 => lft (tru x6)) fun b7 => ret (!b7)) fun b8 => if b8 = true then ret true else bnd (bnd (bnd (ret a_thing) fun x1 => lft (oLen x1)) fun x2 => bnd (ret a_many) fun x3 => lft (oNe x2 x3)) fun x4 => lft (asB x4)) fun b9 => if b9 = true then ret (.bl false) else bnd (bnd (bnd (bnd (ret a_thing) fun x10 => lft (items x10)) fun ds19 => bnd (lft (mkL ds19)) fun ds20 => lcM un1 (fun t11 => bnd (bnd (bnd (bnd (ret t11) fun x14 => bnd (bnd (ret (.int 99)) fun x12 => bnd (ret []) fun ds13 => ret (x12 :: ds13)) fun ds15 => ret (x14 :: ds15)) fun ds16 => m__law_number S (ds16 ++ [])) fun x17 => lft (tru x17)) fun b18 => ret (!b18)) (fun t11 => ret (.int 1)) ds20) fun ds21 => ret (.lst ds21)) fun x22 => lft ((tru x22).map fun b => .bl (!b))
  | _ => stk
noncomputable def m__law_pours (S : Type) : List D → MS S D
  | [a_thing, a_many] => bnd (bnd (bnd (bnd (bnd (ret a_thing) fun x5 => lft (oIsAs [.list, .tuple] x5)) fun x6 => lft (tru x6)) fun b7 => ret (!b7)) fun b8 => if b8 = true then ret true else bnd (bnd (bnd (ret a_thing) fun x1 => lft (oLen x1)) fun x2 => bnd (ret (.int 12)) fun x3 => lft (oGt x2 x3)) fun x4 => lft (asB x4)) fun b9 => if b9 = true then ret (.bl false) else bnd (bnd (bnd (ret a_thing) fun x45 => lft (items x45)) fun ds44 => forF un1 (fun (t12 : D) (s11 : Unit) => bnd (bnd (bnd (bnd (bnd (ret t12) fun x17 => lft (oIsAs [.list, .tuple] x17)) fun x18 => lft (tru x18)) fun b19 => ret (!b19)) fun b20 => if b20 = true then ret true else bnd (bnd (bnd (ret t12) fun x13 => lft (oLen x13)) fun x14 => bnd (ret (.int 2)) fun x15 => lft (oNe x14 x15)) fun x16 => lft (asB x16)) fun b21 => if b21 = true then bnd (bnd (ret (.bl false)) fun a => ret (Fx.rt a)) (fun r => ret r.up) else bnd (bnd (bnd (bnd (bnd (bnd (bnd (ret t12) fun x35 => bnd (ret (.int 0)) fun x36 => lft (oIx x35 x36)) fun x37 => bnd (bnd (bnd (ret a_many) fun x31 => bnd (ret (.int 1)) fun x32 => lft (oSub x31 x32)) fun x33 => bnd (ret []) fun ds34 => ret (x33 :: ds34)) fun ds38 => ret (x37 :: ds38)) fun ds39 => m__law_number S (ds39 ++ [])) fun x40 => lft (tru x40)) fun b41 => ret (!b41)) fun b42 => if b42 = true then ret true else bnd (bnd (bnd (bnd (bnd (ret t12) fun x24 => bnd (ret (.int 1)) fun x25 => lft (oIx x24 x25)) fun x26 => bnd (bnd (ret (.int 99)) fun x22 => bnd (ret []) fun ds23 => ret (x22 :: ds23)) fun ds27 => ret (x26 :: ds27)) fun ds28 => m__law_number S (ds28 ++ [])) fun x29 => lft (tru x29)) fun b30 => ret (!b30)) fun b43 => if b43 = true then bnd (ret (.bl false)) fun a => ret (Fl.rt a) else bnd (ret ()) fun _ => ret (Fl.nx ())) ds44 ()) (frD fun s11 => ret (.bl true))
  | _ => stk
noncomputable def m__law_due (S : Type) : List D → MS S D
  | [a_firsts, a_sights, a_upto] => bnd (bnd (bnd (bnd (bnd (ret a_firsts) fun x8 => lft (oIsAs [.list, .tuple] x8)) fun x9 => lft (tru x9)) fun b10 => ret (!b10)) fun b11 => if b11 = true then ret true else bnd (bnd (bnd (ret (.int 1)) fun x2 => bnd (bnd (ret a_firsts) fun x1 => lft (oLen x1)) fun x3 => bnd (lft ((oLe x2 x3).bind asB)) fun k4 => if k4 = true then bnd (ret (.int 4)) fun x5 => lft (oLe x3 x5) else ret (.bl false)) fun x6 => lft (asB x6)) fun b7 => ret (!b7)) fun b12 => if b12 = true then bnd (bnd (bnd (ret (.str "firsts")) fun x15 => bnd (bnd (ret (.int 0)) fun x13 => bnd (ret []) fun ds14 => ret (x13 :: ds14)) fun ds16 => ret (x15 :: ds16)) fun ds17 => lft (mkL ds17)) fun ds18 => ret (.lst ds18) else bnd (bnd (bnd (bnd (bnd (ret a_firsts) fun x176 => lft (oLen x176)) fun x177 => bnd (ret []) fun ds178 => ret (x177 :: ds178)) fun ds179 => lft (rg1 ds179)) fun ds175 => forF un1 (fun (t24 : D) (s23 : Unit) => bnd (bnd (bnd (bnd (bnd (bnd (ret a_firsts) fun x27 => bnd (ret t24) fun x28 => lft (oIx x27 x28)) fun x29 => bnd (bnd (ret (.int 99)) fun x25 => bnd (ret []) fun ds26 => ret (x25 :: ds26)) fun ds30 => ret (x29 :: ds30)) fun ds31 => m__law_number S (ds31 ++ [])) fun x32 => lft (tru x32)) fun b33 => ret (!b33)) fun b34 => if b34 = true then bnd (bnd (bnd (bnd (ret (.str "firsts")) fun x37 => bnd (bnd (ret t24) fun x35 => bnd (ret []) fun ds36 => ret (x35 :: ds36)) fun ds38 => ret (x37 :: ds38)) fun ds39 => lft (mkL ds39)) fun ds40 => ret (.lst ds40)) fun a => ret (Fl.rt a) else bnd (ret ()) fun _ => ret (Fl.nx ())) ds175 ()) (frD fun s23 => bnd (bnd (bnd (bnd (bnd (ret a_sights) fun x45 => lft (oIsAs [.list, .tuple] x45)) fun x46 => lft (tru x46)) fun b47 => ret (!b47)) fun b48 => if b48 = true then ret true else bnd (bnd (bnd (ret a_sights) fun x41 => lft (oLen x41)) fun x42 => bnd (ret a_upto) fun x43 => lft (oGt x42 x43)) fun x44 => lft (asB x44)) fun b49 => if b49 = true then bnd (bnd (bnd (ret (.str "sight")) fun x54 => bnd (bnd (ret (.int 0)) fun x52 => bnd (bnd (ret (.str "many")) fun x50 => bnd (ret []) fun ds51 => ret (x50 :: ds51)) fun ds53 => ret (x52 :: ds53)) fun ds55 => ret (x54 :: ds55)) fun ds56 => lft (mkL ds56)) fun ds57 => ret (.lst ds57) else bnd (bnd (bnd (bnd (bnd (ret a_sights) fun x171 => lft (oLen x171)) fun x172 => bnd (ret []) fun ds173 => ret (x172 :: ds173)) fun ds174 => lft (rg1 ds174)) fun ds170 => forF un1 (fun (t63 : D) (s62 : Unit) => bnd (bnd (ret a_sights) fun x65 => bnd (ret t63) fun x66 => lft (oIx x65 x66)) fun v_sight_64 => bnd (bnd (bnd (bnd (bnd (ret v_sight_64) fun x71 => lft (oIsAs [.list, .tuple] x71)) fun x72 => lft (tru x72)) fun b73 => ret (!b73)) fun b74 => if b74 = true then ret true else bnd (bnd (bnd (ret v_sight_64) fun x67 => lft (oLen x67)) fun x68 => bnd (ret (.int 2)) fun x69 => lft (oNe x68 x69)) fun x70 => lft (asB x70)) fun b75 => if b75 = true then bnd (bnd (bnd (bnd (bnd (ret (.str "sight")) fun x80 => bnd (bnd (ret t63) fun x78 => bnd (bnd (ret (.str "sight")) fun x76 => bnd (ret []) fun ds77 => ret (x76 :: ds77)) fun ds79 => ret (x78 :: ds79)) fun ds81 => ret (x80 :: ds81)) fun ds82 => lft (mkL ds82)) fun ds83 => ret (.lst ds83)) fun a => ret (Fx.rt a)) (fun r => ret r.up) else bnd (bnd (bnd (bnd (bnd (bnd (ret v_sight_64) fun x87 => bnd (ret (.int 0)) fun x88 => lft (oIx x87 x88)) fun x89 => bnd (bnd (bnd (ret a_firsts) fun x84 => lft (oLen x84)) fun x85 => bnd (ret []) fun ds86 => ret (x85 :: ds86)) fun ds90 => ret (x89 :: ds90)) fun ds91 => m__law_pours S (ds91 ++ [])) fun x92 => lft (tru x92)) fun b93 => ret (!b93)) fun b94 => if b94 = true then bnd (bnd (bnd (bnd (bnd (ret (.str "sight")) fun x99 => bnd (bnd (ret t63) fun x97 => bnd (bnd (ret (.str "script")) fun x95 => bnd (ret []) fun ds96 => ret (x95 :: ds96)) fun ds98 => ret (x97 :: ds98)) fun ds100 => ret (x99 :: ds100)) fun ds101 => lft (mkL ds101)) fun ds102 => ret (.lst ds102)) fun a => ret (Fx.rt a)) (fun r => ret r.up) else bnd (bnd (ret v_sight_64) fun x104 => bnd (ret (.int 1)) fun x105 => lft (oIx x104 x105)) fun v_rows_103 => bnd (bnd (bnd (bnd (bnd (ret v_rows_103) fun x115 => lft (oIsAs [.list, .tuple] x115)) fun x116 => lft (tru x116)) fun b117 => ret (!b117)) fun b118 => if b118 = true then ret true else bnd (bnd (bnd (ret v_rows_103) fun x106 => lft (oLen x106)) fun x112 => bnd (bnd (bnd (bnd (ret v_sight_64) fun x107 => bnd (ret (.int 0)) fun x108 => lft (oIx x107 x108)) fun x109 => lft (oLen x109)) fun x110 => bnd (ret (.int 1)) fun x111 => lft (oAdd x110 x111)) fun x113 => lft (oNe x112 x113)) fun x114 => lft (asB x114)) fun b119 => if b119 = true then bnd (bnd (bnd (bnd (bnd (ret (.str "sight")) fun x124 => bnd (bnd (ret t63) fun x122 => bnd (bnd (ret (.str "rows")) fun x120 => bnd (ret []) fun ds121 => ret (x120 :: ds121)) fun ds123 => ret (x122 :: ds123)) fun ds125 => ret (x124 :: ds125)) fun ds126 => lft (mkL ds126)) fun ds127 => ret (.lst ds127)) fun a => ret (Fx.rt a)) (fun r => ret r.up) else bnd (bnd (bnd (bnd (bnd (ret v_rows_103) fun x128 => lft (items x128)) fun ds138 => bnd (lft (mkL ds138)) fun ds139 => lcM un1 (fun t129 => bnd (bnd (bnd (bnd (ret t129) fun x133 => bnd (bnd (bnd (ret a_firsts) fun x130 => lft (oLen x130)) fun x131 => bnd (ret []) fun ds132 => ret (x131 :: ds132)) fun ds134 => ret (x133 :: ds134)) fun ds135 => m__law_hues S (ds135 ++ [])) fun x136 => lft (tru x136)) fun b137 => ret (!b137)) (fun t129 => ret (.int 1)) ds139) fun ds140 => ret (.lst ds140)) fun x141 => lft (tru x141)) fun b142 => if b142 = true then bnd (bnd (bnd (bnd (bnd (ret (.str "sight")) fun x147 => bnd (bnd (ret t63) fun x145 => bnd (bnd (ret (.str "rows")) fun x143 => bnd (ret []) fun ds144 => ret (x143 :: ds144)) fun ds146 => ret (x145 :: ds146)) fun ds148 => ret (x147 :: ds148)) fun ds149 => lft (mkL ds149)) fun ds150 => ret (.lst ds150)) fun a => ret (Fx.rt a)) (fun r => ret r.up) else bnd (bnd (bnd (bnd (bnd (ret v_rows_103) fun x151 => bnd (ret (.int 0)) fun x152 => lft (oIx x151 x152)) fun x153 => lft (oTuple x153)) fun x155 => bnd (bnd (ret a_firsts) fun x154 => lft (oTuple x154)) fun x156 => lft (oNe x155 x156)) fun x157 => lft (asB x157)) fun b158 => if b158 = true then bnd (bnd (bnd (bnd (ret (.str "sight")) fun x163 => bnd (bnd (ret t63) fun x161 => bnd (bnd (ret (.str "firsts")) fun x159 => bnd (ret []) fun ds160 => ret (x159 :: ds160)) fun ds162 => ret (x161 :: ds162)) fun ds164 => ret (x163 :: ds164)) fun ds165 => lft (mkL ds165)) fun ds166 => ret (.lst ds166)) fun a => ret (Fl.rt a) else bnd (ret ()) fun _ => ret (Fl.nx ())) ds170 ()) (frD fun s62 => bnd (bnd (ret a_sights) fun x167 => bnd (ret []) fun ds168 => ret (x167 :: ds168)) fun ds169 => m__law_bare 8 S (ds169 ++ [])))
  | _ => stk
noncomputable def m__law_cracked (cells : List Int) : List D → MS Hd D
  | [a_script, a_many] => bnd (bnd (bnd (ret (.int 5)) fun x2 => bnd (ret []) fun ds3 => ret (x2 :: ds3)) fun ds4 => m__law_take cells (ds4 ++ [])) fun v_kind_1 => bnd (bnd (bnd (ret a_script) fun x6 => lft (items x6)) fun ds9 => bnd (lft (mkL ds9)) fun ds10 => lcQ un1 (fun t7 => bnd (ret t7) fun x8 => lft (items x8)) ds10) fun v_out_5 => bnd (bnd (bnd (ret v_kind_1) fun x11 => bnd (ret (.int 0)) fun x12 => lft (oEq x11 x12)) fun x13 => lft (asB x13)) fun b14 => if b14 = true then bnd (ret []) fun ds15 => m__law_rid cells (ds15 ++ []) else bnd (bnd (bnd (bnd (ret v_kind_1) fun x17 => bnd (ret (.int 1)) fun x18 => lft (oEq x17 x18)) fun x19 => lft (asB x19)) fun b20 => if b20 = true then ret true else bnd (ret (!v_out_5.isEmpty)) fun b16 => ret (!b16)) fun b21 => if b21 = true then bnd (ret (.lst (v_out_5.map D.lst))) fun x38 => bnd (bnd (bnd (bnd (bnd (bnd (ret (.int 13)) fun x23 => bnd (bnd (ret (.lst (v_out_5.map D.lst))) fun x22 => lft (oLen x22)) fun x24 => lft (oSub x23 x24)) fun x25 => bnd (ret []) fun ds26 => ret (x25 :: ds26)) fun ds27 => lft (rg1 ds27)) fun ds35 => bnd (lft (mkL ds35)) fun ds36 => lcM un1 (fun t28 => ret true) (fun t28 => bnd (bnd (bnd (ret (.int 0)) fun x31 => bnd (bnd (ret (.int 0)) fun x29 => bnd (ret []) fun ds30 => ret (x29 :: ds30)) fun ds32 => ret (x31 :: ds32)) fun ds33 => lft (mkL ds33)) fun ds34 => ret (.lst ds34)) ds36) fun ds37 => ret (.lst ds37)) fun x39 => lft (oAdd x38 x39) else bnd (bnd (bnd (ret (.int (v_out_5.length : Nat))) fun x41 => bnd (ret []) fun ds42 => ret (x41 :: ds42)) fun ds43 => m__law_take cells (ds43 ++ [])) fun v_at_40 => bnd (bnd (bnd (bnd (ret v_kind_1) fun x44 => bnd (ret (.int 2)) fun x45 => lft (oEq x44 x45)) fun x46 => lft (asB x46)) fun b47 => if b47 = true then bnd (bnd (bnd (bnd (ret a_many) fun x49 => bnd (ret []) fun ds50 => ret (x49 :: ds50)) fun ds51 => m__law_odd cells (ds51 ++ [])) fun x52 => bnd (ret v_at_40) fun x53 => bnd (lft (atQ v_out_5 x53)) fun j54 => bnd (ret (.int 0)) fun x55 => lft (setQ v_out_5 j54 x55 x52)) fun qs56 => bnd (ret ()) fun _ => ret (qs56.map D.lst) else bnd (bnd (bnd (ret v_kind_1) fun x57 => bnd (ret (.int 3)) fun x58 => lft (oEq x57 x58)) fun x59 => lft (asB x59)) fun b60 => if b60 = true then bnd (bnd (bnd (bnd (ret (.int 100)) fun x61 => bnd (ret []) fun ds62 => ret (x61 :: ds62)) fun ds63 => m__law_odd cells (ds63 ++ [])) fun x64 => bnd (ret v_at_40) fun x65 => bnd (lft (atQ v_out_5 x65)) fun j66 => bnd (ret (.int 1)) fun x67 => lft (setQ v_out_5 j66 x67 x64)) fun qs68 => bnd (ret ()) fun _ => ret (qs68.map D.lst) else bnd (bnd (bnd (bnd (bnd (bnd (bnd (ret []) fun ds89 => m__law_rid cells (ds89 ++ [])) fun x90 => bnd (bnd (bnd (bnd (bnd (bnd (bnd (ret (.lst (v_out_5.map D.lst))) fun x79 => bnd (ret v_at_40) fun x80 => lft (oIx x79 x80)) fun x81 => bnd (ret (.int 0)) fun x82 => lft (oIx x81 x82)) fun x83 => bnd (ret []) fun ds84 => ret (x83 :: ds84)) fun ds85 => lft (mkL ds85)) fun ds86 => ret (.lst ds86)) fun x87 => bnd (bnd (bnd (bnd (ret (.lst (v_out_5.map D.lst))) fun x69 => bnd (ret v_at_40) fun x70 => lft (oIx x69 x70)) fun x75 => bnd (bnd (bnd (bnd (ret (.int 0)) fun x71 => bnd (ret []) fun ds72 => ret (x71 :: ds72)) fun ds73 => lft (mkL ds73)) fun ds74 => ret (.lst ds74)) fun x76 => lft (oAdd x75 x76)) fun x77 => bnd (ret []) fun ds78 => ret (x77 :: ds78)) fun ds88 => ret (x87 :: ds88)) fun ds91 => ret (x90 :: ds91)) fun ds92 => lft (mkL ds92)) fun ds93 => ret (.lst ds93)) fun x97 => bnd (bnd (bnd (ret (.int 3)) fun x94 => bnd (ret []) fun ds95 => ret (x94 :: ds95)) fun ds96 => m__law_take cells (ds96 ++ [])) fun x98 => lft (oIx x97 x98)) fun x99 => bnd (ret v_at_40) fun x100 => lft (set1 (v_out_5.map D.lst) x100 x99)) fun es101 => bnd (ret ()) fun _ => ret es101) fun s48 => ret (.lst s48)
  | _ => stk
noncomputable def m__law_torn (cells : List Int) : List D → MS Hd D
  | [a_rows] => bnd (bnd (bnd (ret (.int 6)) fun x2 => bnd (ret []) fun ds3 => ret (x2 :: ds3)) fun ds4 => m__law_take cells (ds4 ++ [])) fun v_kind_1 => bnd (bnd (bnd (ret a_rows) fun x6 => lft (items x6)) fun ds9 => bnd (lft (mkL ds9)) fun ds10 => lcQ un1 (fun t7 => bnd (ret t7) fun x8 => lft (items x8)) ds10) fun v_out_5 => bnd (bnd (bnd (ret (.int (v_out_5.length : Nat))) fun x12 => bnd (ret []) fun ds13 => ret (x12 :: ds13)) fun ds14 => m__law_take cells (ds14 ++ [])) fun v_at_11 => bnd (bnd (bnd (ret v_kind_1) fun x15 => bnd (ret (.int 0)) fun x16 => lft (oEq x15 x16)) fun x17 => lft (asB x17)) fun b18 => if b18 = true then bnd (ret []) fun ds19 => m__law_rid cells (ds19 ++ []) else bnd (bnd (bnd (ret v_kind_1) fun x20 => bnd (ret (.int 1)) fun x21 => lft (oEq x20 x21)) fun x22 => lft (asB x22)) fun b23 => if b23 = true then bnd (ret (.lst (v_out_5.map D.lst))) fun x28 => bnd (ret none) fun lo29 => bnd (bnd (bnd (bnd (ret (.lst (v_out_5.map D.lst))) fun x24 => lft (oLen x24)) fun x25 => bnd (ret (.int 1)) fun x26 => lft (oSub x25 x26)) fun x27 => lft (oInt? x27)) fun hi30 => lft (oSl x28 lo29 hi30) else bnd (bnd (bnd (ret v_kind_1) fun x31 => bnd (ret (.int 2)) fun x32 => lft (oEq x31 x32)) fun x33 => lft (asB x33)) fun b34 => if b34 = true then bnd (ret (.lst (v_out_5.map D.lst))) fun x41 => bnd (bnd (bnd (bnd (bnd (ret (.lst (v_out_5.map D.lst))) fun x35 => bnd (ret v_at_11) fun x36 => lft (oIx x35 x36)) fun x37 => bnd (ret []) fun ds38 => ret (x37 :: ds38)) fun ds39 => lft (mkL ds39)) fun ds40 => ret (.lst ds40)) fun x42 => lft (oAdd x41 x42) else bnd (bnd (bnd (bnd (ret v_kind_1) fun x43 => bnd (ret (.int 3)) fun x44 => lft (oEq x43 x44)) fun x45 => lft (asB x45)) fun b46 => if b46 = true then bnd (bnd (bnd (ret []) fun ds48 => m__law_rid cells (ds48 ++ [])) fun x49 => bnd (ret v_at_11) fun x50 => lft (set1 (v_out_5.map D.lst) x50 x49)) fun es51 => bnd (ret ()) fun _ => ret es51 else bnd (bnd (bnd (ret v_kind_1) fun x52 => bnd (ret (.int 4)) fun x53 => lft (oEq x52 x53)) fun x54 => lft (asB x54)) fun b55 => if b55 = true then bnd (bnd (bnd (bnd (bnd (bnd (ret (.int 2)) fun x56 => bnd (ret []) fun ds57 => ret (x56 :: ds57)) fun ds58 => m__law_take cells (ds58 ++ [])) fun x59 => lft (tru x59)) fun b74 => if b74 = true then bnd (bnd (ret (.lst (v_out_5.map D.lst))) fun x60 => bnd (ret v_at_11) fun x61 => lft (oIx x60 x61)) fun x66 => bnd (bnd (bnd (bnd (ret (.int 0)) fun x62 => bnd (ret []) fun ds63 => ret (x62 :: ds63)) fun ds64 => lft (mkL ds64)) fun ds65 => ret (.lst ds65)) fun x67 => lft (oAdd x66 x67) else bnd (bnd (ret (.lst (v_out_5.map D.lst))) fun x68 => bnd (ret v_at_11) fun x69 => lft (oIx x68 x69)) fun x71 => bnd (bnd (ret (.int 1)) fun x70 => lft (oInt? x70)) fun lo72 => bnd (ret none) fun hi73 => lft (oSl x71 lo72 hi73)) fun x75 => bnd (ret v_at_11) fun x76 => lft (set1 (v_out_5.map D.lst) x76 x75)) fun es77 => bnd (ret ()) fun _ => ret es77 else bnd (bnd (bnd (bnd (ret (.int 100)) fun x78 => bnd (ret []) fun ds79 => ret (x78 :: ds79)) fun ds80 => m__law_odd cells (ds80 ++ [])) fun x86 => bnd (ret v_at_11) fun x87 => bnd (lft (atQ v_out_5 x87)) fun j88 => bnd (bnd (bnd (bnd (ret v_at_11) fun x81 => bnd (lft (atQ v_out_5 x81)) fun j82 => ret (.int ((inQ v_out_5 j82).length : Nat))) fun x83 => bnd (ret []) fun ds84 => ret (x83 :: ds84)) fun ds85 => m__law_take cells (ds85 ++ [])) fun x89 => lft (setQ v_out_5 j88 x89 x86)) fun qs90 => bnd (ret ()) fun _ => ret (qs90.map D.lst)) fun s47 => ret (.lst s47)
  | _ => stk
noncomputable def m__law_wrong (cells : List Int) : List D → MS Hd D
  | [a_sight, a_many] => bnd (bnd (bnd (ret (.int 9)) fun x2 => bnd (ret []) fun ds3 => ret (x2 :: ds3)) fun ds4 => m__law_take cells (ds4 ++ [])) fun v_kind_1 => bnd (bnd (bnd (ret v_kind_1) fun x5 => bnd (ret (.int 0)) fun x6 => lft (oEq x5 x6)) fun x7 => lft (asB x7)) fun b8 => if b8 = true then bnd (bnd (bnd (bnd (bnd (ret []) fun ds27 => m__law_rid cells (ds27 ++ [])) fun x28 => bnd (bnd (bnd (bnd (bnd (bnd (ret a_sight) fun x19 => bnd (ret (.int 0)) fun x20 => lft (oIx x19 x20)) fun x21 => bnd (ret []) fun ds22 => ret (x21 :: ds22)) fun ds23 => lft (mkL ds23)) fun ds24 => ret (.lst ds24)) fun x25 => bnd (bnd (bnd (bnd (bnd (ret a_sight) fun x9 => lft (items x9)) fun ds10 => ret (.lst ds10)) fun x15 => bnd (bnd (bnd (bnd (ret (.int 0)) fun x11 => bnd (ret []) fun ds12 => ret (x11 :: ds12)) fun ds13 => lft (mkL ds13)) fun ds14 => ret (.lst ds14)) fun x16 => lft (oAdd x15 x16)) fun x17 => bnd (ret []) fun ds18 => ret (x17 :: ds18)) fun ds26 => ret (x25 :: ds26)) fun ds29 => ret (x28 :: ds29)) fun ds30 => lft (mkL ds30)) fun ds31 => ret (.lst ds31)) fun x35 => bnd (bnd (bnd (ret (.int 3)) fun x32 => bnd (ret []) fun ds33 => ret (x32 :: ds33)) fun ds34 => m__law_take cells (ds34 ++ [])) fun x36 => lft (oIx x35 x36) else bnd (bnd (bnd (ret v_kind_1) fun x37 => bnd (ret (.int 1)) fun x38 => lft (oEq x37 x38)) fun x39 => lft (asB x39)) fun b40 => if b40 = true then bnd (bnd (bnd (bnd (bnd (bnd (ret a_sight) fun x47 => bnd (ret (.int 0)) fun x48 => lft (oIx x47 x48)) fun x49 => bnd (bnd (ret a_many) fun x45 => bnd (ret []) fun ds46 => ret (x45 :: ds46)) fun ds50 => ret (x49 :: ds50)) fun ds51 => m__law_cracked cells (ds51 ++ [])) fun x52 => bnd (bnd (bnd (ret a_sight) fun x41 => bnd (ret (.int 1)) fun x42 => lft (oIx x41 x42)) fun x43 => bnd (ret []) fun ds44 => ret (x43 :: ds44)) fun ds53 => ret (x52 :: ds53)) fun ds54 => lft (mkL ds54)) fun ds55 => ret (.lst ds55) else bnd (bnd (bnd (ret v_kind_1) fun x56 => bnd (ret (.int 2)) fun x57 => lft (oEq x56 x57)) fun x58 => lft (asB x58)) fun b59 => if b59 = true then bnd (bnd (bnd (bnd (ret a_sight) fun x67 => bnd (ret (.int 0)) fun x68 => lft (oIx x67 x68)) fun x69 => bnd (bnd (bnd (bnd (bnd (ret a_sight) fun x60 => bnd (ret (.int 1)) fun x61 => lft (oIx x60 x61)) fun x62 => bnd (ret []) fun ds63 => ret (x62 :: ds63)) fun ds64 => m__law_torn cells (ds64 ++ [])) fun x65 => bnd (ret []) fun ds66 => ret (x65 :: ds66)) fun ds70 => ret (x69 :: ds70)) fun ds71 => lft (mkL ds71)) fun ds72 => ret (.lst ds72) else bnd (bnd (bnd (ret v_kind_1) fun x73 => bnd (ret (.int 3)) fun x74 => lft (oEq x73 x74)) fun x75 => lft (asB x75)) fun b76 => if b76 = true then bnd (bnd (bnd (bnd (ret a_sight) fun x78 => bnd (ret (.int 1)) fun x79 => lft (oIx x78 x79)) fun x80 => bnd (ret (.int 0)) fun x81 => lft (oIx x80 x81)) fun x82 => lft (items x82)) fun v_first_77 => bnd (bnd (bnd (ret a_many) fun x84 => bnd (ret []) fun ds85 => ret (x84 :: ds85)) fun ds86 => m__law_take cells (ds86 ++ [])) fun v_at_83 => bnd (bnd (bnd (bnd (bnd (bnd (bnd (ret (.lst v_first_77)) fun x87 => bnd (ret v_at_83) fun x88 => lft (oIx x87 x88)) fun x89 => bnd (ret (.int 1)) fun x90 => lft (oAdd x89 x90)) fun x94 => bnd (bnd (bnd (ret (.int 99)) fun x91 => bnd (ret []) fun ds92 => ret (x91 :: ds92)) fun ds93 => m__law_take cells (ds93 ++ [])) fun x95 => lft (oAdd x94 x95)) fun x96 => lft (oIntOf x96)) fun x97 => bnd (ret (.int 100)) fun x98 => lft (oMod x97 x98)) fun x99 => bnd (ret v_at_83) fun x100 => lft (set1 v_first_77 x100 x99)) fun es101 => bnd (bnd (bnd (bnd (ret a_sight) fun x118 => bnd (ret (.int 0)) fun x119 => lft (oIx x118 x119)) fun x120 => bnd (bnd (bnd (bnd (bnd (bnd (ret (.lst es101)) fun x102 => bnd (ret []) fun ds103 => ret (x102 :: ds103)) fun ds104 => lft (mkL ds104)) fun ds105 => ret (.lst ds105)) fun x114 => bnd (bnd (bnd (bnd (bnd (ret a_sight) fun x106 => bnd (ret (.int 1)) fun x107 => lft (oIx x106 x107)) fun x109 => bnd (bnd (ret (.int 1)) fun x108 => lft (oInt? x108)) fun lo110 => bnd (ret none) fun hi111 => lft (oSl x109 lo110 hi111)) fun x112 => lft (items x112)) fun ds113 => ret (.lst ds113)) fun x115 => lft (oAdd x114 x115)) fun x116 => bnd (ret []) fun ds117 => ret (x116 :: ds117)) fun ds121 => ret (x120 :: ds121)) fun ds122 => lft (mkL ds122)) fun ds123 => ret (.lst ds123) else ret a_sight
  | _ => stk
noncomputable def m__law_begun (cells : List Int) : List D → MS Hd D
  | [a_firsts] => bnd (bnd (bnd (bnd (ret (.int 8)) fun x1 => bnd (ret []) fun ds2 => ret (x1 :: ds2)) fun ds3 => m__law_take cells (ds3 ++ [])) fun x4 => lft (tru x4)) fun b5 => if b5 = true then ret a_firsts else bnd (bnd (bnd (ret (.int 4)) fun x7 => bnd (ret []) fun ds8 => ret (x7 :: ds8)) fun ds9 => m__law_take cells (ds9 ++ [])) fun v_kind_6 => bnd (bnd (bnd (ret v_kind_6) fun x10 => bnd (ret (.int 0)) fun x11 => lft (oEq x10 x11)) fun x12 => lft (asB x12)) fun b13 => if b13 = true then bnd (ret []) fun ds14 => m__law_rid cells (ds14 ++ []) else bnd (bnd (bnd (ret v_kind_6) fun x15 => bnd (ret (.int 1)) fun x16 => lft (oEq x15 x16)) fun x17 => lft (asB x17)) fun b18 => if b18 = true then bnd (bnd (ret []) fun ds19 => lft (mkL ds19)) fun ds20 => ret (.lst ds20) else bnd (bnd (bnd (ret v_kind_6) fun x21 => bnd (ret (.int 2)) fun x22 => lft (oEq x21 x22)) fun x23 => lft (asB x23)) fun b24 => if b24 = true then bnd (bnd (ret a_firsts) fun x25 => bnd (ret (.int 5)) fun x26 => lft (oMul x25 x26)) fun x28 => bnd (ret none) fun lo29 => bnd (bnd (ret (.int 5)) fun x27 => lft (oInt? x27)) fun hi30 => lft (oSl x28 lo29 hi30) else bnd (bnd (bnd (bnd (ret a_firsts) fun x32 => lft (oLen x32)) fun x33 => bnd (ret []) fun ds34 => ret (x33 :: ds34)) fun ds35 => m__law_take cells (ds35 ++ [])) fun v_at_31 => bnd (bnd (bnd (ret a_firsts) fun x37 => bnd (ret none) fun lo38 => bnd (bnd (ret v_at_31) fun x36 => lft (oInt? x36)) fun hi39 => lft (oSl x37 lo38 hi39)) fun x47 => bnd (bnd (bnd (bnd (bnd (bnd (ret (.int 100)) fun x40 => bnd (ret []) fun ds41 => ret (x40 :: ds41)) fun ds42 => m__law_odd cells (ds42 ++ [])) fun x43 => bnd (ret []) fun ds44 => ret (x43 :: ds44)) fun ds45 => lft (mkL ds45)) fun ds46 => ret (.lst ds46)) fun x48 => lft (oAdd x47 x48)) fun x55 => bnd (bnd (ret a_firsts) fun x52 => bnd (bnd (bnd (ret v_at_31) fun x49 => bnd (ret (.int 1)) fun x50 => lft (oAdd x49 x50)) fun x51 => lft (oInt? x51)) fun lo53 => bnd (ret none) fun hi54 => lft (oSl x52 lo53 hi54)) fun x56 => lft (oAdd x55 x56)
  | _ => stk
noncomputable def m_law (cells : List Int) : MS Hd D := bnd (bnd (ret (.int 1)) fun x5 => bnd (bnd (bnd (ret (.int 4)) fun x2 => bnd (ret []) fun ds3 => ret (x2 :: ds3)) fun ds4 => m__law_take cells (ds4 ++ [])) fun x6 => lft (oAdd x5 x6)) fun v_many_1 => bnd (bnd (bnd (bnd (bnd (ret v_many_1) fun x8 => bnd (ret []) fun ds9 => ret (x8 :: ds9)) fun ds10 => lft (rg1 ds10)) fun ds13 => bnd (lft (mkL ds13)) fun ds14 => lcM un1 (fun t11 => ret true) (fun t11 => bnd (ret []) fun ds12 => m__law_colour cells (ds12 ++ [])) ds14) fun ds15 => ret (.lst ds15)) fun v_firsts_7 => bnd (bnd (ret []) fun ds17 => lft (mkL ds17)) fun v_sights_16 => bnd (bnd (bnd (bnd (bnd (bnd (ret (.int 5)) fun x240 => bnd (ret []) fun ds241 => ret (x240 :: ds241)) fun ds242 => m__law_take cells (ds242 ++ [])) fun x243 => bnd (ret []) fun ds244 => ret (x243 :: ds244)) fun ds245 => lft (rg1 ds245)) fun ds239 => forN un1 (fun (t25 : D) (s24 : List D) => bnd (bnd (bnd (bnd (bnd (bnd (bnd (ret (.int 4)) fun x34 => bnd (ret []) fun ds35 => ret (x34 :: ds35)) fun ds36 => m__law_take cells (ds36 ++ [])) fun x37 => bnd (bnd (bnd (bnd (ret (.int 13)) fun x29 => bnd (ret []) fun ds30 => ret (x29 :: ds30)) fun ds31 => m__law_take cells (ds31 ++ [])) fun x32 => bnd (bnd (ret (.int 12)) fun x27 => bnd (ret []) fun ds28 => ret (x27 :: ds28)) fun ds33 => ret (x32 :: ds33)) fun ds38 => ret (x37 :: ds38)) fun ds39 => lft (mkL ds39)) fun ds40 => ret (.lst ds40)) fun x44 => bnd (bnd (bnd (ret (.int 3)) fun x41 => bnd (ret []) fun ds42 => ret (x41 :: ds42)) fun ds43 => m__law_take cells (ds43 ++ [])) fun x45 => lft (oIx x44 x45)) fun v_size_26 => bnd (bnd (bnd (bnd (bnd (ret v_size_26) fun x47 => bnd (ret []) fun ds48 => ret (x47 :: ds48)) fun ds49 => lft (rg1 ds49)) fun ds60 => bnd (lft (mkL ds60)) fun ds61 => lcM un1 (fun t50 => ret true) (fun t50 => bnd (bnd (bnd (bnd (ret v_many_1) fun x54 => bnd (ret []) fun ds55 => ret (x54 :: ds55)) fun ds56 => m__law_take cells (ds56 ++ [])) fun x57 => bnd (bnd (bnd (ret []) fun ds51 => m__law_colour cells (ds51 ++ [])) fun x52 => bnd (ret []) fun ds53 => ret (x52 :: ds53)) fun ds58 => ret (x57 :: ds58)) fun ds59 => lft ((mkL ds59).map D.tup)) ds61) fun ds62 => ret (.lst ds62)) fun v_pours_here_46 => bnd (bnd (bnd (bnd (ret v_firsts_7) fun x64 => lft (oTuple x64)) fun x65 => bnd (ret []) fun ds66 => ret (x65 :: ds66)) fun ds67 => lft (mkL ds67)) fun v_rows_63 => bnd (bnd (bnd (bnd (ret v_size_26) fun x95 => bnd (ret []) fun ds96 => ret (x95 :: ds96)) fun ds97 => lft (rg1 ds97)) fun ds94 => forN un1 (fun (t72 : D) (s71 : List D) => bnd (bnd (bnd (bnd (bnd (bnd (bnd (ret v_many_1) fun x74 => bnd (ret []) fun ds75 => ret (x74 :: ds75)) fun ds76 => lft (rg1 ds76)) fun ds79 => bnd (lft (mkL ds79)) fun ds80 => lcM un1 (fun t77 => ret true) (fun t77 => bnd (ret []) fun ds78 => m__law_colour cells (ds78 ++ [])) ds80) fun ds81 => ret (.lst ds81)) fun x82 => lft (oTuple x82)) fun x83 => lft (app1 s71 x83)) fun es73 => bnd (ret ()) fun _ => ret es73) ds94 v_rows_63) fun s71 => bnd (bnd (bnd (bnd (ret v_pours_here_46) fun x89 => bnd (bnd (ret (.lst s71)) fun x87 => bnd (ret []) fun ds88 => ret (x87 :: ds88)) fun ds90 => ret (x89 :: ds90)) fun ds91 => lft ((mkL ds91).map D.tup)) fun x92 => lft (app1 s24 x92)) fun es86 => bnd (ret ()) fun _ => ret es86) ds239 v_sights_16) fun s24 => bnd (bnd (bnd (bnd (bnd (ret (.int 2)) fun x99 => bnd (ret []) fun ds100 => ret (x99 :: ds100)) fun ds101 => m__law_take cells (ds101 ++ [])) fun x102 => lft (tru x102)) fun b106 => if b106 = true then ret .non else bnd (bnd (ret (.int 5)) fun x103 => bnd (ret []) fun ds104 => ret (x103 :: ds104)) fun ds105 => m__law_take cells (ds105 ++ [])) fun v_upto_98 => bnd (bnd (bnd (bnd (ret v_upto_98) fun x108 => bnd (ret .non) fun x109 => lft (oIs x108 x109)) fun x110 => lft (asB x110)) fun b111 => if b111 = true then ret (.int 3) else ret v_upto_98) fun v_limit_107 => bnd (bnd (bnd (ret (.lst s24)) fun x114 => bnd (ret []) fun ds115 => ret (x114 :: ds115)) fun ds116 => m__law_lists 8 cells (ds116 ++ [])) fun v_plain_113 => bnd (bnd (bnd (ret v_plain_113) fun x118 => bnd (ret []) fun ds119 => ret (x118 :: ds119)) fun ds120 => m__law_bare 8 Hd (ds120 ++ [])) fun v_kept_117 => bnd (bnd (bnd (bnd (bnd (bnd (bnd (bnd (ret v_firsts_7) fun x131 => bnd (ret []) fun ds132 => ret (x131 :: ds132)) fun ds133 => m__law_lists 8 cells (ds133 ++ [])) fun x134 => bnd (bnd (ret v_plain_113) fun x129 => bnd (bnd (ret v_upto_98) fun x127 => bnd (ret []) fun ds128 => ret (x127 :: ds128)) fun ds130 => ret (x129 :: ds130)) fun ds135 => ret (x134 :: ds135)) fun ds136 => m__law_asked Hd (ds136 ++ [])) fun x144 => bnd (bnd (bnd (ret v_firsts_7) fun x141 => bnd (bnd (ret (.lst s24)) fun x139 => bnd (bnd (ret v_limit_107) fun x137 => bnd (ret []) fun ds138 => ret (x137 :: ds138)) fun ds140 => ret (x139 :: ds140)) fun ds142 => ret (x141 :: ds142)) fun ds143 => m__law_due Hd (ds143 ++ [])) fun x145 => lft (oNeY x144 x145)) fun x146 => lft (asB x146)) fun b147 => if b147 = true then ret true else bnd (bnd (bnd (bnd (ret v_plain_113) fun x121 => bnd (ret []) fun ds122 => ret (x121 :: ds122)) fun ds123 => m__law_bare 8 Hd (ds123 ++ [])) fun x124 => bnd (ret v_kept_117) fun x125 => lft (oNeY x124 x125)) fun x126 => lft (asB x126)) fun b148 => if b148 = true then ret (.bl false) else bnd (bnd (bnd (bnd (ret (.int 2)) fun x236 => bnd (ret []) fun ds237 => ret (x236 :: ds237)) fun ds238 => lft (rg1 ds238)) fun ds235 => forF un1 (fun (t153 : D) (s152 : Unit) => bnd (bnd (bnd (bnd (ret (.lst s24)) fun x155 => lft (items x155)) fun ds162 => bnd (lft (mkL ds162)) fun ds163 => lcM un1 (fun t156 => ret true) (fun t156 => bnd (bnd (ret t156) fun x159 => bnd (bnd (ret v_many_1) fun x157 => bnd (ret []) fun ds158 => ret (x157 :: ds158)) fun ds160 => ret (x159 :: ds160)) fun ds161 => m__law_wrong cells (ds161 ++ [])) ds163) fun ds164 => ret (.lst ds164)) fun v_spoilt_154 => bnd (bnd (bnd (bnd (bnd (bnd (ret (.int 16)) fun x165 => bnd (ret []) fun ds166 => ret (x165 :: ds166)) fun ds167 => m__law_take cells (ds167 ++ [])) fun x168 => bnd (ret (.int 0)) fun x169 => lft (oEq x168 x169)) fun x170 => lft (asB x170)) fun b171 => if b171 = true then bnd (bnd (ret []) fun ds174 => m__law_rid cells (ds174 ++ [])) fun v_spoilt_173 => bnd (ret ()) fun _ => ret v_spoilt_173 else bnd (ret ()) fun _ => ret v_spoilt_154) fun s172 => bnd (bnd (bnd (ret v_firsts_7) fun x176 => bnd (ret []) fun ds177 => ret (x176 :: ds177)) fun ds178 => m__law_begun cells (ds178 ++ [])) fun v_begun_here_175 => bnd (bnd (bnd (ret v_begun_here_175) fun x184 => bnd (bnd (ret s172) fun x182 => bnd (bnd (ret v_limit_107) fun x180 => bnd (ret []) fun ds181 => ret (x180 :: ds181)) fun ds183 => ret (x182 :: ds183)) fun ds185 => ret (x184 :: ds185)) fun ds186 => m__law_due Hd (ds186 ++ [])) fun v_due_here_179 => bnd (bnd (bnd (ret s172) fun x188 => bnd (ret []) fun ds189 => ret (x188 :: ds189)) fun ds190 => m__law_lists 8 cells (ds190 ++ [])) fun v_handed_187 => bnd (bnd (bnd (ret v_handed_187) fun x192 => bnd (ret []) fun ds193 => ret (x192 :: ds193)) fun ds194 => m__law_bare 8 Hd (ds194 ++ [])) fun v_kept_191 => bnd (bnd (bnd (ret v_begun_here_175) fun x200 => bnd (bnd (ret v_handed_187) fun x198 => bnd (bnd (ret v_upto_98) fun x196 => bnd (ret []) fun ds197 => ret (x196 :: ds197)) fun ds199 => ret (x198 :: ds199)) fun ds201 => ret (x200 :: ds201)) fun ds202 => m__law_asked Hd (ds202 ++ [])) fun v_found_195 => bnd (bnd (bnd (bnd (ret v_found_195) fun x218 => bnd (ret v_due_here_179) fun x219 => lft (oNeY x218 x219)) fun x220 => lft (asB x220)) fun b221 => if b221 = true then ret true else bnd (bnd (bnd (bnd (ret v_found_195) fun x214 => lft (oIsA .tuple x214)) fun x215 => lft (tru x215)) fun b216 => if b216 = true then bnd (bnd (bnd (bnd (ret v_found_195) fun x209 => bnd (ret []) fun ds210 => ret (x209 :: ds210)) fun ds211 => m__law_tuples 8 Hd (ds211 ++ [])) fun x212 => lft (tru x212)) fun b213 => ret (!b213) else ret false) fun b217 => if b217 = true then ret true else bnd (bnd (bnd (bnd (ret v_handed_187) fun x203 => bnd (ret []) fun ds204 => ret (x203 :: ds204)) fun ds205 => m__law_bare 8 Hd (ds205 ++ [])) fun x206 => bnd (ret v_kept_191) fun x207 => lft (oNeY x206 x207)) fun x208 => lft (asB x208)) fun b222 => if b222 = true then bnd (ret (.bl false)) fun a => ret (Fl.rt a) else bnd (ret ()) fun _ => ret (Fl.nx ())) ds235 ()) (frD fun s152 => bnd (bnd (bnd (ret v_firsts_7) fun x229 => bnd (bnd (bnd (bnd (ret []) fun ds225 => lft (mkL ds225)) fun ds226 => ret (.lst ds226)) fun x227 => bnd (bnd (ret v_upto_98) fun x223 => bnd (ret []) fun ds224 => ret (x223 :: ds224)) fun ds228 => ret (x227 :: ds228)) fun ds230 => ret (x229 :: ds230)) fun ds231 => m__law_asked Hd (ds231 ++ [])) fun x233 => bnd (bnd (ret []) fun ds232 => lft ((mkL ds232).map D.tup)) fun x234 => lft (oEq x233 x234))
section
variable {P : Program} {w : World} {K : PySem.W.Frag} {mg : Str → Option Value} {base : Heap} {A : Ad}
theorem exZ (T : Tx K mg A) : ∀ c c', c < 4 → c' < 4 → PySem.W.exmOne K (.ref ((Zo K A).cl c)) (.ref ((Zo K A).cl c')) = some (decide (c = c')) := T.ex
theorem okD_BadMarks_ok (K : PySem.W.Frag) (A : Ad) : ∀ (G : Hp) (ys : List V) (ds : List D), RpAll (Zo K A) G ys ds → okD_BadMarks ds = true → ds.length = ((Zo K A).fn 0).length ∧ ((Zo K A).fn 0).length ≤ 1000 ∧ ok_i_BadMarks ys := fun G ys ds r h => by
  match ds, r, h with
    | [], _, h => exact Bool.noConfusion (show false = true from h)
    | _ :: _ :: _, _, h => exact Bool.noConfusion (show false = true from h)
    | [v0], r, h =>
    cases r with | cons r0 r =>  cases r; exact ⟨rfl, (show 1 ≤ 1000 by decide), trivial⟩
theorem sc_BadMarks : FnScope ["self", "marks"] ["self", "marks"] (defScope s_BadMarks) := ⟨rfl, rfl, rfl, by decide +kernel, rfl, by decide +kernel, by decide +kernel⟩
theorem oki_BadMarks (T : Tx K mg A) : FnOk P w K mg base (L2.CX P w) 1 A.i_BadMarks A.di_BadMarks ["self", "marks"] (spIni ((Zo K A).cl 0) ((Zo K A).fn 0) ok_i_BadMarks) :=
  T.FI_BadMarks.ok sc_BadMarks (fun vs H Q E h => by obtain ⟨a, ys, rfl, hl, _⟩ := h; rw [List.length_cons, hl]; rfl) fun cdv A' outer s H vs Q E hr h => by
    obtain ⟨a, ys, rfl, hl, ho, ha, kk⟩ := h
    match ys, hl, ho, kk with
    | [], _, ho, _ => exact ho.elim
    | _ :: _ :: _, _, ho, _ => exact ho.elim
    | [v0], hl, ho, kk =>
    refine ⟨_, pss_cons (ps_expr (pe_base T.base rfl (by exact (pa_cons (pv 0) (pa_cons pe_str pa_nil))))) (pss_one (ps_ost (pv 0) (pv 1))), ?_⟩
    exact ini1 T.o_BadMarks T.h_BadMarks_marks ⟨a, [v0], rfl, hl, ho, ha, kk⟩ fun ho σ hs H' R z => by subst hs; exact z _
theorem okD_BadScript_ok (K : PySem.W.Frag) (A : Ad) : ∀ (G : Hp) (ys : List V) (ds : List D), RpAll (Zo K A) G ys ds → okD_BadScript ds = true → ds.length = ((Zo K A).fn 1).length ∧ ((Zo K A).fn 1).length ≤ 1000 ∧ ok_i_BadScript ys := fun G ys ds r h => by
  match ds, r, h with
    | [], _, h => exact Bool.noConfusion (show false = true from h)
    | [_], _, h => exact Bool.noConfusion (show false = true from h)
    | _ :: _ :: _ :: _, _, h => exact Bool.noConfusion (show false = true from h)
    | [v0, v1], r, h =>
    cases r with | cons r0 r =>  cases r with | cons r1 r =>  cases r; simp only [okD_BadScript, Bool.and_eq_true] at h; obtain ⟨h0, h1⟩ := h; exact ⟨rfl, (show 2 ≤ 1000 by decide), ⟨fmt_of r1 h0, fmt_of r0 h1⟩⟩
theorem sc_BadScript : FnScope ["self", "index", "what"] ["self", "index", "what"] (defScope s_BadScript) := ⟨rfl, rfl, rfl, by decide +kernel, rfl, by decide +kernel, by decide +kernel⟩
theorem oki_BadScript (T : Tx K mg A) : FnOk P w K mg base (L2.CX P w) 1 A.i_BadScript A.di_BadScript ["self", "index", "what"] (spIni ((Zo K A).cl 1) ((Zo K A).fn 1) ok_i_BadScript) :=
  T.FI_BadScript.ok sc_BadScript (fun vs H Q E h => by obtain ⟨a, ys, rfl, hl, _⟩ := h; rw [List.length_cons, hl]; rfl) fun cdv A' outer s H vs Q E hr h => by
    obtain ⟨a, ys, rfl, hl, ho, ha, kk⟩ := h
    match ys, hl, ho, kk with
    | [], _, ho, _ => exact ho.elim
    | [_], _, ho, _ => exact ho.elim
    | _ :: _ :: _ :: _, _, ho, _ => exact ho.elim
    | [v0, v1], hl, ho, kk =>
    refine ⟨_, pss_cons (ps_expr (pe_base T.base rfl (by exact (pa_cons (pv 0) (pa_cons (pe_joined (PJ.cons pe_str (PJ.cons (pe_fmt (pv 2)) (PJ.cons pe_str (PJ.cons (pe_fmt (pv 1)) PJ.nil))))) pa_nil))))) (pss_cons (ps_ost (pv 0) (pv 1)) (pss_one (ps_ost (pv 0) (pv 2)))), ?_⟩
    exact ini2 T.o_BadScript T.h_BadScript_index T.h_BadScript_what ⟨a, [v0, v1], rfl, hl, ho, ha, kk⟩ fun ho σ hs H' R z => by subst hs; exact js_ok (JsOk.cons (tx_str (by decide +kernel)) (JsOk.cons (tx_fmt (n := 2) rfl ho.1) (JsOk.cons (tx_str (by decide +kernel)) (JsOk.cons (tx_fmt (n := 1) rfl ho.2) JsOk.nil)))) (by decide) fun out => z out
theorem okD_BadFirsts_ok (K : PySem.W.Frag) (A : Ad) : ∀ (G : Hp) (ys : List V) (ds : List D), RpAll (Zo K A) G ys ds → okD_BadFirsts ds = true → ds.length = ((Zo K A).fn 2).length ∧ ((Zo K A).fn 2).length ≤ 1000 ∧ ok_i_BadFirsts ys := fun G ys ds r h => by
  match ds, r, h with
    | [], _, h => exact Bool.noConfusion (show false = true from h)
    | _ :: _ :: _, _, h => exact Bool.noConfusion (show false = true from h)
    | [v0], r, h =>
    cases r with | cons r0 r =>  cases r; exact ⟨rfl, (show 1 ≤ 1000 by decide), fmt_of r0 h⟩
theorem sc_BadFirsts : FnScope ["self", "index"] ["self", "index"] (defScope s_BadFirsts) := ⟨rfl, rfl, rfl, by decide +kernel, rfl, by decide +kernel, by decide +kernel⟩
theorem oki_BadFirsts (T : Tx K mg A) : FnOk P w K mg base (L2.CX P w) 1 A.i_BadFirsts A.di_BadFirsts ["self", "index"] (spIni ((Zo K A).cl 2) ((Zo K A).fn 2) ok_i_BadFirsts) :=
  T.FI_BadFirsts.ok sc_BadFirsts (fun vs H Q E h => by obtain ⟨a, ys, rfl, hl, _⟩ := h; rw [List.length_cons, hl]; rfl) fun cdv A' outer s H vs Q E hr h => by
    obtain ⟨a, ys, rfl, hl, ho, ha, kk⟩ := h
    match ys, hl, ho, kk with
    | [], _, ho, _ => exact ho.elim
    | _ :: _ :: _, _, ho, _ => exact ho.elim
    | [v0], hl, ho, kk =>
    refine ⟨_, pss_cons (ps_expr (pe_base T.base rfl (by exact (pa_cons (pv 0) (pa_cons (pe_joined (PJ.cons pe_str (PJ.cons (pe_fmt (pv 1)) (PJ.cons pe_str PJ.nil)))) pa_nil))))) (pss_one (ps_ost (pv 0) (pv 1))), ?_⟩
    exact ini1 T.o_BadFirsts T.h_BadFirsts_index ⟨a, [v0], rfl, hl, ho, ha, kk⟩ fun ho σ hs H' R z => by subst hs; exact js_ok (JsOk.cons (tx_str (by decide +kernel)) (JsOk.cons (tx_fmt (n := 1) rfl ho) (JsOk.cons (tx_str (by decide +kernel)) JsOk.nil))) (by decide) fun out => z out
theorem okD_BadSight_ok (K : PySem.W.Frag) (A : Ad) : ∀ (G : Hp) (ys : List V) (ds : List D), RpAll (Zo K A) G ys ds → okD_BadSight ds = true → ds.length = ((Zo K A).fn 3).length ∧ ((Zo K A).fn 3).length ≤ 1000 ∧ ok_i_BadSight ys := fun G ys ds r h => by
  match ds, r, h with
    | [], _, h => exact Bool.noConfusion (show false = true from h)
    | [_], _, h => exact Bool.noConfusion (show false = true from h)
    | _ :: _ :: _ :: _, _, h => exact Bool.noConfusion (show false = true from h)
    | [v0, v1], r, h =>
    cases r with | cons r0 r =>  cases r with | cons r1 r =>  cases r; simp only [okD_BadSight, Bool.and_eq_true] at h; obtain ⟨h0, h1⟩ := h; exact ⟨rfl, (show 2 ≤ 1000 by decide), ⟨fmt_of r1 h0, fmt_of r0 h1⟩⟩
theorem sc_BadSight : FnScope ["self", "index", "what"] ["self", "index", "what"] (defScope s_BadSight) := ⟨rfl, rfl, rfl, by decide +kernel, rfl, by decide +kernel, by decide +kernel⟩
theorem oki_BadSight (T : Tx K mg A) : FnOk P w K mg base (L2.CX P w) 1 A.i_BadSight A.di_BadSight ["self", "index", "what"] (spIni ((Zo K A).cl 3) ((Zo K A).fn 3) ok_i_BadSight) :=
  T.FI_BadSight.ok sc_BadSight (fun vs H Q E h => by obtain ⟨a, ys, rfl, hl, _⟩ := h; rw [List.length_cons, hl]; rfl) fun cdv A' outer s H vs Q E hr h => by
    obtain ⟨a, ys, rfl, hl, ho, ha, kk⟩ := h
    match ys, hl, ho, kk with
    | [], _, ho, _ => exact ho.elim
    | [_], _, ho, _ => exact ho.elim
    | _ :: _ :: _ :: _, _, ho, _ => exact ho.elim
    | [v0, v1], hl, ho, kk =>
    refine ⟨_, pss_cons (ps_expr (pe_base T.base rfl (by exact (pa_cons (pv 0) (pa_cons (pe_joined (PJ.cons pe_str (PJ.cons (pe_fmt (pv 2)) (PJ.cons pe_str (PJ.cons (pe_fmt (pv 1)) PJ.nil))))) pa_nil))))) (pss_cons (ps_ost (pv 0) (pv 1)) (pss_one (ps_ost (pv 0) (pv 2)))), ?_⟩
    exact ini2 T.o_BadSight T.h_BadSight_index T.h_BadSight_what ⟨a, [v0, v1], rfl, hl, ho, ha, kk⟩ fun ho σ hs H' R z => by subst hs; exact js_ok (JsOk.cons (tx_str (by decide +kernel)) (JsOk.cons (tx_fmt (n := 2) rfl ho.1) (JsOk.cons (tx_str (by decide +kernel)) (JsOk.cons (tx_fmt (n := 1) rfl ho.2) JsOk.nil)))) (by decide) fun out => z out
theorem sc__law_hand : FnScope ["_law_script", "_law_total", "_law_cells", "_law_cell"] ["_law_script"] (defScope s__law_hand) := ⟨rfl, rfl, rfl, by decide +kernel, rfl, by decide +kernel, by decide +kernel⟩
theorem ok__law_hand (T : Tx K mg A) : FnOk P w K mg base (L2.CX P w) 1 A.a__law_hand A.d__law_hand ["_law_script"] (spHand K) :=
  T.F__law_hand.ok sc__law_hand (fun vs H Q E h => by obtain ⟨a, ns, rfl, _⟩ := h; rfl) fun cdv A' outer s H vs Q E hr h => by
    refine ⟨_, pss_cons (ps_set (i := 1) sc__law_hand.nd rfl (by first | exact Or.inl rfl | exact Or.inr rfl) (by exact (pe_op (op_addK (K := K) rfl) (pe_callB (call_lnK (K := K) rfl) rfl T.n_len rfl (pa_cons (pv 0) pa_nil)) pe_int)))
      (pss_cons (ps_set (i := 2) sc__law_hand.nd rfl (by first | exact Or.inl rfl | exact Or.inr rfl) (by exact (pe_lst pa_nil)))
      (pss_cons (ps_for PassesOwn.leaving rfl (pi_sqK (K := K) rfl (pv 0)) (pg_name (i := 3) sc__law_hand.nd rfl (by first | exact Or.inl rfl | exact Or.inr rfl))
        (pss_cons (ps_set (i := 1) sc__law_hand.nd rfl (by first | exact Or.inl rfl | exact Or.inr rfl) (by exact (pe_op op_modN (pe_callTy call_int1 rfl T.n_int rfl (pa_cons (pe_op (op_addK (K := K) rfl) (pe_op op_mulG (pv 1) pe_int) (pe_callTy call_int1 rfl T.n_int rfl (pa_cons (pv 3) pa_nil))) pa_nil)) pe_int)))
        (pss_cons (ps_expr (pe_bm PySem.F.plainAttrs_list PySem.F.slot_list_append PySem.F.type_list_append mt_append (pv 2) (pa_cons (pe_callB call_abs rfl T.n_abs rfl (pa_cons (pe_callTy call_int1 rfl T.n_int rfl (pa_cons (pv 3) pa_nil)) pa_nil)) pa_nil))) pss_nil)))
      (pss_one (ps_ret (by exact (pe_lst (pa_cons (pv 2) (pa_cons pe_int (pa_cons pe_int (pa_cons (pv 1) pa_nil)))))))))), ?_⟩
    exact hand_ok (n := 53) h (by decide) rfl
theorem sc_is_whole : FnScope ["thing", "low", "high"] ["thing", "low", "high"] (defScope s_is_whole) := ⟨rfl, rfl, rfl, by decide +kernel, rfl, by decide +kernel, by decide +kernel⟩
theorem ok_is_whole (T : Tx K mg A) : FnG P w K mg base (L2.CX P w) 1 A.a_is_whole A.d_is_whole ["thing", "low", "high"] (spM (Zo K A) m_is_whole) :=
  fnD_okG T.F_is_whole sc_is_whole (fun vs H Q E h => spM_len (fun S ds h => match ds, h with | [], _ => rfl | [_], _ => rfl | [_, _], _ => rfl | [_, _, _], h => absurd rfl h | _ :: _ :: _ :: _ :: _, _ => rfl) h) fun cdv A' outer s H vs Q E hg hr h => by
    obtain ⟨S, lay, G, s0, ds, wd, r, e⟩ := h
    match ds, r, e with
    | [], _, e => exact e.elim
    | [_], _, e => exact e.elim
    | [_, _], _, e => exact e.elim
    | _ :: _ :: _ :: _ :: _, _, e => exact e.elim
    | [a_thing, a_low, a_high], r, e =>
    refine ⟨_, (pss_cons (ps_if (PW.pt (pw_or (pt_not (pt_truK (K := K) rfl (pe_callB (call_isiK (K := K) rfl) rfl T.n_isinstance rfl (pa_cons (pv 0) (pa_cons (pe_bltn (v := .ty "int") rfl T.n_int rfl rfl) pa_nil))) (fun _ => rfl))) (pw_or1 (pt_truK (K := K) rfl (pe_callB (call_isiK (K := K) rfl) rfl T.n_isinstance rfl (pa_cons (pv 0) (pa_cons (pe_bltn (v := .ty "bool") rfl T.n_bool rfl rfl) pa_nil))) (fun _ => rfl))))) (pss_one (ps_ret (by exact pe_bl))) pss_nil) (pss_cons (ps_if (PW.pt (pw_and (pt_cmpR op_notN (pv 1) pe_non (nomark _)) (pw_and1 (pt_cmpR op_lt (pv 0) (pv 1) (nomark _))))) (pss_one (ps_ret (by exact pe_bl))) pss_nil) (pss_one (ps_ret (by exact (pe_or (pe_cmpR op_isN (pv 2) pe_non (nomark _)) (pe_one (pe_cmpR op_le (pv 0) (pv 2) (nomark _))))))))), ?_⟩
    exact body_ok (ρ := [.P a_thing, .P a_low, .P a_high]) (J := ⟨Zo K A, lay, fun cls d _ H => E cls d H⟩) (esc := List.replicate 3 .U) (sv_ifR (et_or (et_not (et_tru (Ev.x (ev_isa .int (Ev.x (ev_var (i := 0) (d := a_thing) rfl)))))) (et_tru (Ev.x (ev_isa .bool (Ev.x (ev_var (i := 0) (d := a_thing) rfl)))))) wkU (sv_ret ev_bl wkU) (sv_skip (sv_ifR (et_and (et_test (ev_op o2_nis (Ev.x (ev_var (i := 1) (d := a_low) rfl)) (Ev.x ev_non))) (et_test (ev_op o2_lt (Ev.x (ev_var (i := 0) (d := a_thing) rfl)) (Ev.x (ev_var (i := 1) (d := a_low) rfl))))) wkU (sv_ret ev_bl wkU) (sv_skip (sv_ret (ev_orV (ev_op o2_is (Ev.x (ev_var (i := 2) (d := a_high) rfl)) (Ev.x ev_non)) (ev_op o2_le (Ev.x (ev_var (i := 0) (d := a_thing) rfl)) (Ev.x (ev_var (i := 2) (d := a_high) rfl)))) wkU))))) ⟨cells_start (n := 0) r rfl, by simpa using wd⟩ (fun _ _ _ _ h => h) e
theorem sc_is_sequence : FnScope ["thing"] ["thing"] (defScope s_is_sequence) := ⟨rfl, rfl, rfl, by decide +kernel, rfl, by decide +kernel, by decide +kernel⟩
theorem ok_is_sequence (T : Tx K mg A) : FnG P w K mg base (L2.CX P w) 1 A.a_is_sequence A.d_is_sequence ["thing"] (spM (Zo K A) m_is_sequence) :=
  fnD_okG T.F_is_sequence sc_is_sequence (fun vs H Q E h => spM_len (fun S ds h => match ds, h with | [], _ => rfl | [_], h => absurd rfl h | _ :: _ :: _, _ => rfl) h) fun cdv A' outer s H vs Q E hg hr h => by
    obtain ⟨S, lay, G, s0, ds, wd, r, e⟩ := h
    match ds, r, e with
    | [], _, e => exact e.elim
    | _ :: _ :: _, _, e => exact e.elim
    | [a_thing], r, e =>
    refine ⟨_, (pss_one (ps_ret (by exact (pe_callB (call_isiTK (K := K) rfl) rfl T.n_isinstance rfl (pa_cons (pv 0) (pa_cons (pe_tup (pa_cons (pe_bltn (v := .ty "list") rfl T.n_list rfl rfl) (pa_cons (pe_bltn (v := .ty "tuple") rfl T.n_tuple rfl rfl) pa_nil))) pa_nil)))))), ?_⟩
    exact body_ok (ρ := [.P a_thing]) (J := ⟨Zo K A, lay, fun cls d _ H => E cls d H⟩) (esc := List.replicate 1 .U) (sv_ret (ev_isas [.list, .tuple] (Ev.x (ev_var (i := 0) (d := a_thing) rfl))) wkU) ⟨cells_start (n := 0) r rfl, by simpa using wd⟩ (fun _ _ _ _ h => h) e
theorem sc_is_couple : FnScope ["thing"] ["thing"] (defScope s_is_couple) := ⟨rfl, rfl, rfl, by decide +kernel, rfl, by decide +kernel, by decide +kernel⟩
theorem ok_is_couple (T : Tx K mg A) : FnG P w K mg base (L2.CX P w) 2 A.a_is_couple A.d_is_couple ["thing"] (spM (Zo K A) m_is_couple) :=
  fnD_okG T.F_is_couple sc_is_couple (fun vs H Q E h => spM_len (fun S ds h => match ds, h with | [], _ => rfl | [_], h => absurd rfl h | _ :: _ :: _, _ => rfl) h) fun cdv A' outer s H vs Q E hg hr h => by
    obtain ⟨S, lay, G, s0, ds, wd, r, e⟩ := h
    match ds, r, e with
    | [], _, e => exact e.elim
    | _ :: _ :: _, _, e => exact e.elim
    | [a_thing], r, e =>
    refine ⟨_, (pss_one (ps_ret (by exact (pe_and (pe_callG (by exact hg) (ok_is_sequence T) (hr.mono (by first | decide | exact Nat.le_refl _ | omega | (simp only [Nat.add_eq]; omega))) rfl T.g_is_sequence T.F_is_sequence.kp T.b_is_sequence .nil (fun σ => passAt (takes_of rfl rfl rfl rfl) σ) (by exact (pa_cons (pv 0) pa_nil))) (pe_one (pe_cmpR (op_eqK (K := K) rfl hr.units) (pe_callB (call_lnK (K := K) rfl) rfl T.n_len rfl (pa_cons (pv 0) pa_nil)) pe_int (nomark _))))))), ?_⟩
    exact body_ok (ρ := [.P a_thing]) (J := ⟨Zo K A, lay, fun cls d _ H => E cls d H⟩) (esc := List.replicate 1 .U) (sv_ret (ev_andV (ev_call (dds := []) (ea_cons (ev_var (i := 0) (d := a_thing) rfl) ea_nil)) (ev_op o2_eq (Ev.x (ev_b1 o1_len (Ev.x (ev_var (i := 0) (d := a_thing) rfl)))) (Ev.x ev_int))) wkU) ⟨cells_start (n := 0) r rfl, by simpa using wd⟩ (fun _ _ _ _ h => h) e
theorem sc_is_colour : FnScope ["thing"] ["thing"] (defScope s_is_colour) := ⟨rfl, rfl, rfl, by decide +kernel, rfl, by decide +kernel, by decide +kernel⟩
theorem ok_is_colour (T : Tx K mg A) : FnG P w K mg base (L2.CX P w) 2 A.a_is_colour A.d_is_colour ["thing"] (spM (Zo K A) m_is_colour) :=
  fnD_okG T.F_is_colour sc_is_colour (fun vs H Q E h => spM_len (fun S ds h => match ds, h with | [], _ => rfl | [_], h => absurd rfl h | _ :: _ :: _, _ => rfl) h) fun cdv A' outer s H vs Q E hg hr h => by
    obtain ⟨S, lay, G, s0, ds, wd, r, e⟩ := h
    match ds, r, e with
    | [], _, e => exact e.elim
    | _ :: _ :: _, _, e => exact e.elim
    | [a_thing], r, e =>
    refine ⟨_, (pss_one (ps_ret (by exact (pe_callG (by exact hg) (ok_is_whole T) (hr.mono (by first | decide | exact Nat.le_refl _ | omega | (simp only [Nat.add_eq]; omega))) rfl T.g_is_whole T.F_is_whole.kp T.b_is_whole .nil (fun σ => passAt (takes_of rfl rfl rfl rfl) σ) (by exact (pa_cons (pv 0) (pa_cons pe_int (pa_cons (pe_glob (v := .int 99) rfl T.k_MOST_COLOUR.choose_spec ⟨_, rfl⟩) pa_nil)))))))), ?_⟩
    exact body_ok (ρ := [.P a_thing]) (J := ⟨Zo K A, lay, fun cls d _ H => E cls d H⟩) (esc := List.replicate 1 .U) (sv_ret (ev_call (dds := []) (ea_cons (ev_var (i := 0) (d := a_thing) rfl) (ea_cons ev_int (ea_cons ev_int ea_nil)))) wkU) ⟨cells_start (n := 0) r rfl, by simpa using wd⟩ (fun _ _ _ _ h => h) e
theorem sc_wrong_colour : FnScope ["row", "index", "colour"] ["row"] (defScope s_wrong_colour) := ⟨rfl, rfl, rfl, by decide +kernel, rfl, by decide +kernel, by decide +kernel⟩
theorem ok_wrong_colour (T : Tx K mg A) : FnG P w K mg base (L2.CX P w) 3 A.a_wrong_colour A.d_wrong_colour ["row"] (spM (Zo K A) m_wrong_colour) :=
  fnD_okG T.F_wrong_colour sc_wrong_colour (fun vs H Q E h => spM_len (fun S ds h => match ds, h with | [], _ => rfl | [_], h => absurd rfl h | _ :: _ :: _, _ => rfl) h) fun cdv A' outer s H vs Q E hg hr h => by
    obtain ⟨S, lay, G, s0, ds, wd, r, e⟩ := h
    match ds, r, e with
    | [], _, e => exact e.elim
    | _ :: _ :: _, _, e => exact e.elim
    | [a_row], r, e =>
    refine ⟨_, (pss_cons (ps_for PassesOwn.leaving rfl (pi_enK (K := K) rfl rfl T.n_enumerate (pa_cons (pv 0) pa_nil)) (pg_tupK (K := K) (n := 2) rfl rfl (pgs_cons (pg_name (i := 1) sc_wrong_colour.nd rfl (by first | exact Or.inl rfl | exact Or.inr rfl)) (pgs_cons (pg_name (i := 2) sc_wrong_colour.nd rfl (by first | exact Or.inl rfl | exact Or.inr rfl)) pgs_nil))) (pss_one (ps_if (pt_not (pt_truK (K := K) rfl (pe_callG (by exact hg) (ok_is_colour T) (hr.mono (by first | decide | exact Nat.le_refl _ | omega | (simp only [Nat.add_eq]; omega))) rfl T.g_is_colour T.F_is_colour.kp T.b_is_colour .nil (fun σ => passAt (takes_of rfl rfl rfl rfl) σ) (by exact (pa_cons (pv 2) pa_nil))) (fun _ => rfl))) (pss_one (ps_ret (by exact (pv 1)))) pss_nil))) (pss_one (ps_ret (by exact pe_non)))), ?_⟩
    exact body_ok (ρ := [.P a_row, .U, .U]) (J := ⟨Zo K A, lay, fun cls d _ H => E cls d H⟩) (esc := List.replicate 3 .U) (sv_frD (e := fun (s2 : Unit) => ([.P a_row, .U, .U] : Dm.Env)) (sv_wk (Wk.keep (Wk.keep (Wk.keep Wk.nil))) (sv_forF (e := fun (s2 : Unit) => ([.P a_row, .U, .U] : Dm.Env)) () (ei_en (ev_var (i := 0) (d := a_row) rfl)) wkU (tg_pair 1 2) (fun t3 s2 => (sv_if (et_not (et_tru (Ev.x (ev_call (dds := []) (ea_cons (ev_var (i := 2) (d := t3.2) rfl) ea_nil))))) wkU (sv_to (g := Fl.rt) (sv_ret (ev_var (i := 1) (d := t3.1) rfl) wkU) (fun _ => rfl)) (sv_to (g := fun _ => Fl.nx ()) sv_next (fun _ => (Wk.keep (Wk.drop (Wk.drop Wk.nil))))))))) (fun s2 => (sv_ret ev_non wkU))) ⟨cells_start (n := 2) r rfl, by simpa using wd⟩ (fun _ _ _ _ h => h) e
theorem sc_check_marks : FnScope ["marks"] ["marks"] (defScope s_check_marks) := ⟨rfl, rfl, rfl, by decide +kernel, rfl, by decide +kernel, by decide +kernel⟩
theorem ok_check_marks (T : Tx K mg A) : FnG P w K mg base (L2.CX P w) 3 A.a_check_marks A.d_check_marks ["marks"] (spM (Zo K A) m_check_marks) :=
  fnD_okG T.F_check_marks sc_check_marks (fun vs H Q E h => spM_len (fun S ds h => match ds, h with | [], _ => rfl | [_], h => absurd rfl h | _ :: _ :: _, _ => rfl) h) fun cdv A' outer s H vs Q E hg hr h => by
    obtain ⟨S, lay, G, s0, ds, wd, r, e⟩ := h
    match ds, r, e with
    | [], _, e => exact e.elim
    | _ :: _ :: _, _, e => exact e.elim
    | [a_marks], r, e =>
    refine ⟨_, (pss_cons (ps_if (pt_not (pt_truK (K := K) rfl (pe_callG (by exact hg) (ok_is_whole T) (hr.mono (by first | decide | exact Nat.le_refl _ | omega | (simp only [Nat.add_eq]; omega))) rfl T.g_is_whole T.F_is_whole.kp T.b_is_whole .nil (fun σ => passAt (takes_of rfl rfl rfl rfl) σ) (by exact (pa_cons (pv 0) (pa_cons pe_int (pa_cons (pe_glob (v := .int 4) rfl T.k_MOST_MARKS.choose_spec ⟨_, rfl⟩) pa_nil))))) (fun _ => rfl))) (pss_one (ps_raise rfl (takes_of rfl rfl rfl rfl) (pmk_oex T.o_BadMarks T.i_BadMarks T.t_BadMarks (oki_BadMarks T) (k := 1) (hr.mono (by decide)) T.bi_BadMarks .nil passF rfl T.g_BadMarks (pa_cons (pv 0) pa_nil)))) pss_nil) (pss_one (ps_ret (by exact (pv 0))))), ?_⟩
    exact body_ok (ρ := [.P a_marks]) (J := ⟨Zo K A, lay, fun cls d _ H => E cls d H⟩) (esc := List.replicate 1 .U) (sv_ifR (et_not (et_tru (Ev.x (ev_call (dds := []) (ea_cons (ev_var (i := 0) (d := a_marks) rfl) (ea_cons ev_int (ea_cons ev_int ea_nil))))))) wkU (sv_raise (c := 0) (okD := okD_BadMarks) (ea_cons (ev_var (i := 0) (d := a_marks) rfl) ea_nil) wkU (okD_BadMarks_ok K A)) (sv_skip (sv_ret (ev_var (i := 0) (d := a_marks) rfl) wkU))) ⟨cells_start (n := 0) r rfl, by simpa using wd⟩ (fun _ _ _ _ h => h) e
theorem sc__pour_fault : FnScope ["marks", "pour"] ["marks", "pour"] (defScope s__pour_fault) := ⟨rfl, rfl, rfl, by decide +kernel, rfl, by decide +kernel, by decide +kernel⟩
theorem ok__pour_fault (T : Tx K mg A) : FnG P w K mg base (L2.CX P w) 3 A.a__pour_fault A.d__pour_fault ["marks", "pour"] (spM (Zo K A) m__pour_fault) :=
  fnD_okG T.F__pour_fault sc__pour_fault (fun vs H Q E h => spM_len (fun S ds h => match ds, h with | [], _ => rfl | [_], _ => rfl | [_, _], h => absurd rfl h | _ :: _ :: _ :: _, _ => rfl) h) fun cdv A' outer s H vs Q E hg hr h => by
    obtain ⟨S, lay, G, s0, ds, wd, r, e⟩ := h
    match ds, r, e with
    | [], _, e => exact e.elim
    | [_], _, e => exact e.elim
    | _ :: _ :: _ :: _, _, e => exact e.elim
    | [a_marks, a_pour], r, e =>
    refine ⟨_, (pss_cons (ps_if (pt_not (pt_truK (K := K) rfl (pe_callG (by exact hg) (ok_is_couple T) (hr.mono (by first | decide | exact Nat.le_refl _ | omega | (simp only [Nat.add_eq]; omega))) rfl T.g_is_couple T.F_is_couple.kp T.b_is_couple .nil (fun σ => passAt (takes_of rfl rfl rfl rfl) σ) (by exact (pa_cons (pv 1) pa_nil))) (fun _ => rfl))) (pss_one (ps_ret (by exact pe_str))) pss_nil) (pss_cons (ps_if (pt_not (pt_truK (K := K) rfl (pe_callG (by exact hg) (ok_is_whole T) (hr.mono (by first | decide | exact Nat.le_refl _ | omega | (simp only [Nat.add_eq]; omega))) rfl T.g_is_whole T.F_is_whole.kp T.b_is_whole .nil (fun σ => passAt (takes_of rfl rfl rfl rfl) σ) (by exact (pa_cons (pe_ix (ix_seqK (K := K) rfl) (pv 1) pe_int (fun _ _ => rfl)) (pa_cons pe_int (pa_cons (pe_op op_sub (pv 0) pe_int) pa_nil))))) (fun _ => rfl))) (pss_one (ps_ret (by exact pe_str))) pss_nil) (pss_cons (ps_if (pt_not (pt_truK (K := K) rfl (pe_callG (by exact hg) (ok_is_colour T) (hr.mono (by first | decide | exact Nat.le_refl _ | omega | (simp only [Nat.add_eq]; omega))) rfl T.g_is_colour T.F_is_colour.kp T.b_is_colour .nil (fun σ => passAt (takes_of rfl rfl rfl rfl) σ) (by exact (pa_cons (pe_ix (ix_seqK (K := K) rfl) (pv 1) pe_int (fun _ _ => rfl)) pa_nil))) (fun _ => rfl))) (pss_one (ps_ret (by exact pe_str))) pss_nil) (pss_one (ps_ret (by exact pe_non)))))), ?_⟩
    exact body_ok (ρ := [.P a_marks, .P a_pour]) (J := ⟨Zo K A, lay, fun cls d _ H => E cls d H⟩) (esc := List.replicate 2 .U) (sv_ifR (et_not (et_tru (Ev.x (ev_call (dds := []) (ea_cons (ev_var (i := 1) (d := a_pour) rfl) ea_nil))))) wkU (sv_ret ev_str wkU) (sv_skip (sv_ifR (et_not (et_tru (Ev.x (ev_call (dds := []) (ea_cons (ev_op o2_ix (Ev.x (ev_var (i := 1) (d := a_pour) rfl)) (Ev.x ev_int)) (ea_cons ev_int (ea_cons (ev_op o2_sub (Ev.x (ev_var (i := 0) (d := a_marks) rfl)) (Ev.x ev_int)) ea_nil))))))) wkU (sv_ret ev_str wkU) (sv_skip (sv_ifR (et_not (et_tru (Ev.x (ev_call (dds := []) (ea_cons (ev_op o2_ix (Ev.x (ev_var (i := 1) (d := a_pour) rfl)) (Ev.x ev_int)) ea_nil))))) wkU (sv_ret ev_str wkU) (sv_skip (sv_ret ev_non wkU))))))) ⟨cells_start (n := 0) r rfl, by simpa using wd⟩ (fun _ _ _ _ h => h) e
theorem sc_check_script : FnScope ["marks", "script", "index", "pour", "fault"] ["marks", "script"] (defScope s_check_script) := ⟨rfl, rfl, rfl, by decide +kernel, rfl, by decide +kernel, by decide +kernel⟩
theorem ok_check_script (T : Tx K mg A) : FnG P w K mg base (L2.CX P w) 4 A.a_check_script A.d_check_script ["marks", "script"] (spM (Zo K A) m_check_script) :=
  fnD_okG T.F_check_script sc_check_script (fun vs H Q E h => spM_len (fun S ds h => match ds, h with | [], _ => rfl | [_], _ => rfl | [_, _], h => absurd rfl h | _ :: _ :: _ :: _, _ => rfl) h) fun cdv A' outer s H vs Q E hg hr h => by
    obtain ⟨S, lay, G, s0, ds, wd, r, e⟩ := h
    match ds, r, e with
    | [], _, e => exact e.elim
    | [_], _, e => exact e.elim
    | _ :: _ :: _ :: _, _, e => exact e.elim
    | [a_marks, a_script], r, e =>
    refine ⟨_, (pss_cons (ps_expr (by exact (pe_callG (by exact hg) (ok_check_marks T) (hr.mono (by first | decide | exact Nat.le_refl _ | omega | (simp only [Nat.add_eq]; omega))) rfl T.g_check_marks T.F_check_marks.kp T.b_check_marks .nil (fun σ => passAt (takes_of rfl rfl rfl rfl) σ) (by exact (pa_cons (pv 0) pa_nil))))) (pss_cons (ps_if (PW.pt (pw_or (pt_not (pt_truK (K := K) rfl (pe_callG (by exact hg) (ok_is_sequence T) (hr.mono (by first | decide | exact Nat.le_refl _ | omega | (simp only [Nat.add_eq]; omega))) rfl T.g_is_sequence T.F_is_sequence.kp T.b_is_sequence .nil (fun σ => passAt (takes_of rfl rfl rfl rfl) σ) (by exact (pa_cons (pv 1) pa_nil))) (fun _ => rfl))) (pw_or1 (pt_cmpR op_gt (pe_callB (call_lnK (K := K) rfl) rfl T.n_len rfl (pa_cons (pv 1) pa_nil)) (pe_glob (v := .int 12) rfl T.k_MOST_POURS.choose_spec ⟨_, rfl⟩) (nomark _))))) (pss_one (ps_raise rfl (takes_of rfl rfl rfl rfl) (pmk_oex T.o_BadScript T.i_BadScript T.t_BadScript (oki_BadScript T) (k := 1) (hr.mono (by decide)) T.bi_BadScript .nil passF rfl T.g_BadScript (pa_cons pe_int (pa_cons pe_str pa_nil))))) pss_nil) (pss_cons (ps_for PassesOwn.leaving rfl (pi_enK (K := K) rfl rfl T.n_enumerate (pa_cons (pv 1) pa_nil)) (pg_tupK (K := K) (n := 2) rfl rfl (pgs_cons (pg_name (i := 2) sc_check_script.nd rfl (by first | exact Or.inl rfl | exact Or.inr rfl)) (pgs_cons (pg_name (i := 3) sc_check_script.nd rfl (by first | exact Or.inl rfl | exact Or.inr rfl)) pgs_nil))) (pss_cons (ps_set (i := 4) sc_check_script.nd rfl (by first | exact Or.inl rfl | exact Or.inr rfl) (by exact (pe_callG (by exact hg) (ok__pour_fault T) (hr.mono (by first | decide | exact Nat.le_refl _ | omega | (simp only [Nat.add_eq]; omega))) rfl T.g__pour_fault T.F__pour_fault.kp T.b__pour_fault .nil (fun σ => passAt (takes_of rfl rfl rfl rfl) σ) (by exact (pa_cons (pv 0) (pa_cons (pv 3) pa_nil)))))) (pss_one (ps_if (pt_cmpR op_notN (pv 4) pe_non (nomark _)) (pss_one (ps_raise rfl (takes_of rfl rfl rfl rfl) (pmk_oex T.o_BadScript T.i_BadScript T.t_BadScript (oki_BadScript T) (k := 1) (hr.mono (by decide)) T.bi_BadScript .nil passF rfl T.g_BadScript (pa_cons (pv 2) (pa_cons (pv 4) pa_nil))))) pss_nil)))) (pss_one (ps_ret (by exact (pe_callTy (call_tupK (K := K) rfl) rfl T.n_tuple rfl (pa_cons (pe_lc (own := [("pour", 3)]) rfl sc_check_script.nd (pi_sqK (K := K) rfl (pv 1)) (blkOk_by (N := ["marks", "script", "index", "pour", "fault"]) (sc := defScope s_check_script) (by decide +kernel)) (fun _ _ _ _ _ => by exact (pg_name (i := 3) sc_check_script.nd rfl (Or.inl rfl))) (fun _ _ _ _ _ => by exact pts_nil) (fun _ _ _ _ _ => by exact (pe_callTy (call_tupK (K := K) rfl) rfl T.n_tuple rfl (pa_cons (pv 3) pa_nil)))) pa_nil)))))))), ?_⟩
    exact body_ok (ρ := [.P a_marks, .P a_script, .U, .U, .U]) (J := ⟨Zo K A, lay, fun cls d _ H => E cls d H⟩) (esc := List.replicate 5 .U) (sv_seq (e := fun (_ : D) => ([.P a_marks, .P a_script, .U, .U, .U] : Dm.Env)) (sv_drop (ev_call (dds := []) (ea_cons (ev_var (i := 0) (d := a_marks) rfl) ea_nil)) wkU) (fun _ => (sv_ifR (et_or (et_not (et_tru (Ev.x (ev_call (dds := []) (ea_cons (ev_var (i := 1) (d := a_script) rfl) ea_nil))))) (et_test (ev_op o2_gt (Ev.x (ev_b1 o1_len (Ev.x (ev_var (i := 1) (d := a_script) rfl)))) (Ev.x ev_int)))) wkU (sv_raise (c := 1) (okD := okD_BadScript) (ea_cons ev_int (ea_cons ev_str ea_nil)) wkU (okD_BadScript_ok K A)) (sv_skip (sv_seq (e := fun (s21 : Unit) => ([.P a_marks, .P a_script, .U, .U, .U] : Dm.Env)) (sv_wk (Wk.keep (Wk.keep (Wk.keep (Wk.keep (Wk.keep Wk.nil))))) (sv_forN (e := fun (s21 : Unit) => ([.P a_marks, .P a_script, .U, .U, .U] : Dm.Env)) () (ei_en (ev_var (i := 1) (d := a_script) rfl)) wkU (tg_pair 2 3) (fun t22 s21 => (sv_seq (e := fun (v_fault_23 : D) => ([.P a_marks, .P a_script, .P t22.1, .P t22.2, .P v_fault_23] : Dm.Env)) (sv_asg (ev_call (dds := []) (ea_cons (ev_var (i := 0) (d := a_marks) rfl) (ea_cons (ev_var (i := 3) (d := t22.2) rfl) ea_nil))) wkU) (fun v_fault_23 => (sv_if (et_test (ev_op o2_nis (Ev.x (ev_var (i := 4) (d := v_fault_23) rfl)) (Ev.x ev_non))) wkU (sv_raise (c := 1) (okD := okD_BadScript) (ea_cons (ev_var (i := 2) (d := t22.1) rfl) (ea_cons (ev_var (i := 4) (d := v_fault_23) rfl) ea_nil)) wkU (okD_BadScript_ok K A)) (sv_to (g := fun _ => ()) sv_next (fun _ => (Wk.keep (Wk.keep (Wk.drop (Wk.drop (Wk.drop Wk.nil))))))))))))) (fun s21 => (sv_ret (ev_b1 o1_tuple (Ev.x (ev_new (el_lc (ei_sq (ev_var (i := 1) (d := a_script) rfl)) (fun _ _ => (tg_name 3)) (fun t39 _ _ => et_yes) (fun t39 _ _ => (ev_b1 o1_tuple (Ev.x (ev_var (i := 3) (d := t39) rfl)))) (hO := (List.forall_mem_cons.2 ⟨rfl, (List.forall_mem_nil _)⟩)))))) wkU))))))) ⟨cells_start (n := 3) r rfl, by simpa using wd⟩ (fun _ _ _ _ h => h) e
theorem sc__is_due : FnScope ["many", "marks"] ["many", "marks"] (defScope s__is_due) := ⟨rfl, rfl, rfl, by decide +kernel, rfl, by decide +kernel, by decide +kernel⟩
theorem ok__is_due (T : Tx K mg A) : FnG P w K mg base (L2.CX P w) 1 A.a__is_due A.d__is_due ["many", "marks"] (spM (Zo K A) m__is_due) :=
  fnD_okG T.F__is_due sc__is_due (fun vs H Q E h => spM_len (fun S ds h => match ds, h with | [], _ => rfl | [_], _ => rfl | [_, _], h => absurd rfl h | _ :: _ :: _ :: _, _ => rfl) h) fun cdv A' outer s H vs Q E hg hr h => by
    obtain ⟨S, lay, G, s0, ds, wd, r, e⟩ := h
    match ds, r, e with
    | [], _, e => exact e.elim
    | [_], _, e => exact e.elim
    | _ :: _ :: _ :: _, _, e => exact e.elim
    | [a_many, a_marks], r, e =>
    refine ⟨_, (pss_cons (ps_if (pt_cmpR op_isN (pv 1) pe_non (nomark _)) (pss_one (ps_ret (by exact (pe_chain op_le op_le pe_int (pv 0) (pe_glob (v := .int 4) rfl T.k_MOST_MARKS.choose_spec ⟨_, rfl⟩))))) pss_nil) (pss_one (ps_ret (by exact (pe_cmpR (op_eqK (K := K) rfl hr.units) (pv 0) (pv 1) (nomark _)))))), ?_⟩
    exact body_ok (ρ := [.P a_many, .P a_marks]) (J := ⟨Zo K A, lay, fun cls d _ H => E cls d H⟩) (esc := List.replicate 2 .U) (sv_ifR (et_test (ev_op o2_is (Ev.x (ev_var (i := 1) (d := a_marks) rfl)) (Ev.x ev_non))) wkU (sv_ret (ev_chain o2_le o2_le ev_int (ev_var (i := 0) (d := a_many) rfl) ev_int) wkU) (sv_skip (sv_ret (ev_op o2_eq (Ev.x (ev_var (i := 0) (d := a_many) rfl)) (Ev.x (ev_var (i := 1) (d := a_marks) rfl))) wkU))) ⟨cells_start (n := 0) r rfl, by simpa using wd⟩ (fun _ _ _ _ h => h) e
theorem sc_check_firsts : FnScope ["marks", "firsts", "wrong"] ["marks", "firsts"] (defScope s_check_firsts) := ⟨rfl, rfl, rfl, by decide +kernel, rfl, by decide +kernel, by decide +kernel⟩
theorem ok_check_firsts (T : Tx K mg A) : FnG P w K mg base (L2.CX P w) 4 A.a_check_firsts A.d_check_firsts ["marks", "firsts"] (spM (Zo K A) m_check_firsts) :=
  fnD_okG T.F_check_firsts sc_check_firsts (fun vs H Q E h => spM_len (fun S ds h => match ds, h with | [], _ => rfl | [_], _ => rfl | [_, _], h => absurd rfl h | _ :: _ :: _ :: _, _ => rfl) h) fun cdv A' outer s H vs Q E hg hr h => by
    obtain ⟨S, lay, G, s0, ds, wd, r, e⟩ := h
    match ds, r, e with
    | [], _, e => exact e.elim
    | [_], _, e => exact e.elim
    | _ :: _ :: _ :: _, _, e => exact e.elim
    | [a_marks, a_firsts], r, e =>
    refine ⟨_, (pss_cons (ps_if (pt_cmpR op_notN (pv 0) pe_non (nomark _)) (pss_cons (ps_expr (by exact (pe_callG (by exact hg) (ok_check_marks T) (hr.mono (by first | decide | exact Nat.le_refl _ | omega | (simp only [Nat.add_eq]; omega))) rfl T.g_check_marks T.F_check_marks.kp T.b_check_marks .nil (fun σ => passAt (takes_of rfl rfl rfl rfl) σ) (by exact (pa_cons (pv 0) pa_nil))))) pss_nil) pss_nil) (pss_cons (ps_if (PW.pt (pw_or (pt_not (pt_truK (K := K) rfl (pe_callG (by exact hg) (ok_is_sequence T) (hr.mono (by first | decide | exact Nat.le_refl _ | omega | (simp only [Nat.add_eq]; omega))) rfl T.g_is_sequence T.F_is_sequence.kp T.b_is_sequence .nil (fun σ => passAt (takes_of rfl rfl rfl rfl) σ) (by exact (pa_cons (pv 1) pa_nil))) (fun _ => rfl))) (pw_or1 (pt_not (pt_truK (K := K) rfl (pe_callG (by exact hg) (ok__is_due T) (hr.mono (by first | decide | exact Nat.le_refl _ | omega | (simp only [Nat.add_eq]; omega))) rfl T.g__is_due T.F__is_due.kp T.b__is_due .nil (fun σ => passAt (takes_of rfl rfl rfl rfl) σ) (by exact (pa_cons (pe_callB (call_lnK (K := K) rfl) rfl T.n_len rfl (pa_cons (pv 1) pa_nil)) (pa_cons (pv 0) pa_nil)))) (fun _ => rfl)))))) (pss_one (ps_raise rfl (takes_of rfl rfl rfl rfl) (pmk_oex T.o_BadFirsts T.i_BadFirsts T.t_BadFirsts (oki_BadFirsts T) (k := 1) (hr.mono (by decide)) T.bi_BadFirsts .nil passF rfl T.g_BadFirsts (pa_cons pe_int pa_nil)))) pss_nil) (pss_cons (ps_set (i := 2) sc_check_firsts.nd rfl (by first | exact Or.inl rfl | exact Or.inr rfl) (by exact (pe_callG (by exact hg) (ok_wrong_colour T) (hr.mono (by first | decide | exact Nat.le_refl _ | omega | (simp only [Nat.add_eq]; omega))) rfl T.g_wrong_colour T.F_wrong_colour.kp T.b_wrong_colour .nil (fun σ => passAt (takes_of rfl rfl rfl rfl) σ) (by exact (pa_cons (pv 1) pa_nil))))) (pss_cons (ps_if (pt_cmpR op_notN (pv 2) pe_non (nomark _)) (pss_one (ps_raise rfl (takes_of rfl rfl rfl rfl) (pmk_oex T.o_BadFirsts T.i_BadFirsts T.t_BadFirsts (oki_BadFirsts T) (k := 1) (hr.mono (by decide)) T.bi_BadFirsts .nil passF rfl T.g_BadFirsts (pa_cons (pv 2) pa_nil)))) pss_nil) (pss_one (ps_ret (by exact (pe_callTy (call_tupK (K := K) rfl) rfl T.n_tuple rfl (pa_cons (pv 1) pa_nil))))))))), ?_⟩
    exact body_ok (ρ := [.P a_marks, .P a_firsts, .U]) (J := ⟨Zo K A, lay, fun cls d _ H => E cls d H⟩) (esc := List.replicate 3 .U) (sv_seq (e := fun (s5 : Unit) => ([.P a_marks, .P a_firsts, .U] : Dm.Env)) (sv_if (et_test (ev_op o2_nis (Ev.x (ev_var (i := 0) (d := a_marks) rfl)) (Ev.x ev_non))) wkU (sv_seq (e := fun (_ : D) => ([.P a_marks, .P a_firsts, .U] : Dm.Env)) (sv_drop (ev_call (dds := []) (ea_cons (ev_var (i := 0) (d := a_marks) rfl) ea_nil)) wkU) (fun _ => (sv_to (g := fun _ => ()) sv_next (fun _ => (Wk.keep (Wk.keep (Wk.keep Wk.nil))))))) (sv_to (g := fun _ => ()) sv_next (fun _ => (Wk.keep (Wk.keep (Wk.keep Wk.nil)))))) (fun s5 => (sv_ifR (et_or (et_not (et_tru (Ev.x (ev_call (dds := []) (ea_cons (ev_var (i := 1) (d := a_firsts) rfl) ea_nil))))) (et_not (et_tru (Ev.x (ev_call (dds := []) (ea_cons (ev_b1 o1_len (Ev.x (ev_var (i := 1) (d := a_firsts) rfl))) (ea_cons (ev_var (i := 0) (d := a_marks) rfl) ea_nil))))))) wkU (sv_raise (c := 2) (okD := okD_BadFirsts) (ea_cons ev_int ea_nil) wkU (okD_BadFirsts_ok K A)) (sv_skip (sv_seq (e := fun (v_wrong_27 : D) => ([.P a_marks, .P a_firsts, .P v_wrong_27] : Dm.Env)) (sv_asg (ev_call (dds := []) (ea_cons (ev_var (i := 1) (d := a_firsts) rfl) ea_nil)) wkU) (fun v_wrong_27 => (sv_ifR (et_test (ev_op o2_nis (Ev.x (ev_var (i := 2) (d := v_wrong_27) rfl)) (Ev.x ev_non))) wkU (sv_raise (c := 2) (okD := okD_BadFirsts) (ea_cons (ev_var (i := 2) (d := v_wrong_27) rfl) ea_nil) wkU (okD_BadFirsts_ok K A)) (sv_skip (sv_ret (ev_b1 o1_tuple (Ev.x (ev_var (i := 1) (d := a_firsts) rfl))) wkU))))))))) ⟨cells_start (n := 1) r rfl, by simpa using wd⟩ (fun _ _ _ _ h => h) e
theorem sc__is_row : FnScope ["marks", "row"] ["marks", "row"] (defScope s__is_row) := ⟨rfl, rfl, rfl, by decide +kernel, rfl, by decide +kernel, by decide +kernel⟩
theorem ok__is_row (T : Tx K mg A) : FnG P w K mg base (L2.CX P w) 5 A.a__is_row A.d__is_row ["marks", "row"] (spM (Zo K A) m__is_row) :=
  fnD_okG T.F__is_row sc__is_row (fun vs H Q E h => spM_len (fun S ds h => match ds, h with | [], _ => rfl | [_], _ => rfl | [_, _], h => absurd rfl h | _ :: _ :: _ :: _, _ => rfl) h) fun cdv A' outer s H vs Q E hg hr h => by
    obtain ⟨S, lay, G, s0, ds, wd, r, e⟩ := h
    match ds, r, e with
    | [], _, e => exact e.elim
    | [_], _, e => exact e.elim
    | _ :: _ :: _ :: _, _, e => exact e.elim
    | [a_marks, a_row], r, e =>
    refine ⟨_, (pss_cons (ps_tryK (K := K) (Wo := fun cls d _ H => E cls d H) rfl rfl rfl sc__is_row.nd (takes_of rfl rfl rfl rfl) (fun W pn xe tk po => (pss_cons (ps_expr (by exact (pe_callG (by exact hg) (ok_check_firsts T) (hr.mono (by first | decide | exact Nat.le_refl _ | omega | (simp only [Nat.add_eq]; omega))) rfl T.g_check_firsts T.F_check_firsts.kp T.b_check_firsts .nil (fun σ => passAt tk σ) (by exact (pa_cons (pv 0) (pa_cons (pv 1) pa_nil)))))) pss_nil)) (HdsA.cons (n := none) (i := none) ⟨rfl, by decide, Or.inl T.g_BadFirsts⟩ trivial (fun a oe cls d pn hz hf => (pss_one (ps_ret (by exact pe_bl)))) HdsA.nil)) (pss_one (ps_ret (by exact pe_bl)))), ?_⟩
    exact body_ok (ρ := [.P a_marks, .P a_row]) (J := ⟨Zo K A, lay, fun cls d _ H => E cls d H⟩) (esc := List.replicate 2 .U) (sv_frD (e := fun (s1 : Unit) => ([.P a_marks, .P a_row] : Dm.Env)) (sv_tryF (n := 4) (escB := [.P a_marks, .P a_row]) ta_gone (exZ T) (fun X1 => sv_J (J2 := ⟨Zo K A, lay, X1⟩) rfl (sv_seq (e := fun (_ : D) => ([.P a_marks, .P a_row] : Dm.Env)) (sv_drop (ev_call (dds := []) (ea_cons (ev_var (i := 0) (d := a_marks) rfl) (ea_cons (ev_var (i := 1) (d := a_row) rfl) ea_nil))) (by repeat (first | exact Wk.nil | apply Wk.keep | apply Wk.drop))) (fun _ => (sv_to (g := fun _ => Fr.nx ()) sv_next (fun _ => (Wk.keep (Wk.keep Wk.nil))))))) (HsF.bare (c := 2) (fun a dx fs7 => sv_J (J2 := ⟨Zo K A, lay, fun _ _ _ _ => False⟩) rfl (sv_to (g := Fr.rt) (sv_ret ev_bl (by repeat (first | exact Wk.nil | apply Wk.keep | apply Wk.drop))) (fun _ => rfl))) HsF.nil) (List.forall_mem_cons.2 ⟨Nat.le_of_ble_eq_true rfl, (List.forall_mem_nil _)⟩) (by repeat (first | exact Wk.nil | apply Wk.keep | apply Wk.drop))) (fun s1 => (sv_ret ev_bl wkU))) ⟨cells_start (n := 0) r rfl, by simpa using wd⟩ (fun _ _ _ _ h => h) e
theorem sc__sight_fault : FnScope ["firsts", "sight", "script", "rows", "row"] ["firsts", "sight"] (defScope s__sight_fault) := ⟨rfl, rfl, rfl, by decide +kernel, rfl, by decide +kernel, by decide +kernel⟩
theorem ok__sight_fault (T : Tx K mg A) : FnG P w K mg base (L2.CX P w) 6 A.a__sight_fault A.d__sight_fault ["firsts", "sight"] (spM (Zo K A) m__sight_fault) :=
  fnD_okG T.F__sight_fault sc__sight_fault (fun vs H Q E h => spM_len (fun S ds h => match ds, h with | [], _ => rfl | [_], _ => rfl | [_, _], h => absurd rfl h | _ :: _ :: _ :: _, _ => rfl) h) fun cdv A' outer s H vs Q E hg hr h => by
    obtain ⟨S, lay, G, s0, ds, wd, r, e⟩ := h
    match ds, r, e with
    | [], _, e => exact e.elim
    | [_], _, e => exact e.elim
    | _ :: _ :: _ :: _, _, e => exact e.elim
    | [a_firsts, a_sight], r, e =>
    refine ⟨_, (pss_cons (ps_if (pt_not (pt_truK (K := K) rfl (pe_callG (by exact hg) (ok_is_couple T) (hr.mono (by first | decide | exact Nat.le_refl _ | omega | (simp only [Nat.add_eq]; omega))) rfl T.g_is_couple T.F_is_couple.kp T.b_is_couple .nil (fun σ => passAt (takes_of rfl rfl rfl rfl) σ) (by exact (pa_cons (pv 1) pa_nil))) (fun _ => rfl))) (pss_one (ps_ret (by exact pe_str))) pss_nil) (pss_cons (ps_asg (pv 1) (pg_seqK (K := K) rfl (n := 2) rfl (pgs_cons (pg_name (i := 2) sc__sight_fault.nd rfl (by first | exact Or.inl rfl | exact Or.inr rfl)) (pgs_cons (pg_name (i := 3) sc__sight_fault.nd rfl (by first | exact Or.inl rfl | exact Or.inr rfl)) pgs_nil)))) (pss_cons (ps_tryK (K := K) (Wo := fun cls d _ H => E cls d H) rfl rfl rfl sc__sight_fault.nd (takes_of rfl rfl rfl rfl) (fun W pn xe tk po => (pss_cons (ps_expr (by exact (pe_callG (by exact hg) (ok_check_script T) (hr.mono (by first | decide | exact Nat.le_refl _ | omega | (simp only [Nat.add_eq]; omega))) rfl T.g_check_script T.F_check_script.kp T.b_check_script .nil (fun σ => passAt tk σ) (by exact (pa_cons (pe_callB (call_lnK (K := K) rfl) rfl T.n_len rfl (pa_cons (pv 0) pa_nil)) (pa_cons (pv 2) pa_nil)))))) pss_nil)) (HdsA.cons (n := none) (i := none) ⟨rfl, by decide, Or.inl T.g_BadScript⟩ trivial (fun a oe cls d pn hz hf => (pss_one (ps_ret (by exact pe_str)))) HdsA.nil)) (pss_cons (ps_if (PW.pt (pw_or (pt_not (pt_truK (K := K) rfl (pe_callG (by exact hg) (ok_is_sequence T) (hr.mono (by first | decide | exact Nat.le_refl _ | omega | (simp only [Nat.add_eq]; omega))) rfl T.g_is_sequence T.F_is_sequence.kp T.b_is_sequence .nil (fun σ => passAt (takes_of rfl rfl rfl rfl) σ) (by exact (pa_cons (pv 3) pa_nil))) (fun _ => rfl))) (pw_or1 (pt_cmpR (op_neK (K := K) rfl hr.units) (pe_callB (call_lnK (K := K) rfl) rfl T.n_len rfl (pa_cons (pv 3) pa_nil)) (pe_op (op_addK (K := K) rfl) (pe_callB (call_lnK (K := K) rfl) rfl T.n_len rfl (pa_cons (pv 2) pa_nil)) pe_int) (nomark _))))) (pss_one (ps_ret (by exact pe_str))) pss_nil) (pss_cons (ps_if (pt_not (pt_truK (K := K) rfl (pe_callB (cr_allK (K := K) rfl rfl) rfl T.n_all rfl (pa_cons (pe_lc (own := [("row", 4)]) rfl sc__sight_fault.nd (pi_sqK (K := K) rfl (pv 3)) (blkOk_by (N := ["firsts", "sight", "script", "rows", "row"]) (sc := defScope s__sight_fault) (by decide +kernel)) (fun _ _ _ _ _ => by exact (pg_name (i := 4) sc__sight_fault.nd rfl (Or.inl rfl))) (fun _ _ _ _ _ => by exact pts_nil) (fun _ _ _ _ _ => by exact (pe_callG (by exact hg) (ok__is_row T) (hr.mono (by first | decide | exact Nat.le_refl _ | omega | (simp only [Nat.add_eq]; omega))) rfl T.g__is_row T.F__is_row.kp T.b__is_row .nil (passN (fun _ _ _ _ q => q)) (by exact (pa_cons (pe_callB (call_lnK (K := K) rfl) rfl T.n_len rfl (pa_cons (pv 0) pa_nil)) (pa_cons (pv 4) pa_nil)))))) pa_nil)) (fun _ => rfl))) (pss_one (ps_ret (by exact pe_str))) pss_nil) (pss_one (ps_ret (by exact (pe_ifExp (pt_cmpR (op_eqK (K := K) rfl hr.units) (pe_callTy (call_tupK (K := K) rfl) rfl T.n_tuple rfl (pa_cons (pe_ix (ix_seqK (K := K) rfl) (pv 3) pe_int (fun _ _ => rfl)) pa_nil)) (pv 0) (nomark _)) pe_non pe_str))))))))), ?_⟩
    exact body_ok (ρ := [.P a_firsts, .P a_sight, .U, .U, .U]) (J := ⟨Zo K A, lay, fun cls d _ H => E cls d H⟩) (esc := List.replicate 5 .U) (sv_ifR (et_not (et_tru (Ev.x (ev_call (dds := []) (ea_cons (ev_var (i := 1) (d := a_sight) rfl) ea_nil))))) wkU (sv_ret ev_str wkU) (sv_skip (sv_seq (e := fun (t7 : D × D) => ([.P a_firsts, .P a_sight, .P t7.1, .P t7.2, .U] : Dm.Env)) (sv_asgT (ev_var (i := 1) (d := a_sight) rfl) wkU (tg_pairS 2 3)) (fun t7 => (sv_frD (e := fun (s9 : Unit) => ([.P a_firsts, .P a_sight, .P t7.1, .P t7.2, .U] : Dm.Env)) (sv_tryF (n := 4) (escB := [.P a_firsts, .P a_sight, .P t7.1, .P t7.2, .U]) ta_gone (exZ T) (fun X1 => sv_J (J2 := ⟨Zo K A, lay, X1⟩) rfl (sv_seq (e := fun (_ : D) => ([.P a_firsts, .P a_sight, .P t7.1, .P t7.2, .U] : Dm.Env)) (sv_drop (ev_call (dds := []) (ea_cons (ev_b1 o1_len (Ev.x (ev_var (i := 0) (d := a_firsts) rfl))) (ea_cons (ev_var (i := 2) (d := t7.1) rfl) ea_nil))) (by repeat (first | exact Wk.nil | apply Wk.keep | apply Wk.drop))) (fun _ => (sv_to (g := fun _ => Fr.nx ()) sv_next (fun _ => (Wk.keep (Wk.keep (Wk.keep (Wk.keep (Wk.keep Wk.nil)))))))))) (HsF.bare (c := 1) (fun a dx fs16 => sv_J (J2 := ⟨Zo K A, lay, fun _ _ _ _ => False⟩) rfl (sv_to (g := Fr.rt) (sv_ret ev_str (by repeat (first | exact Wk.nil | apply Wk.keep | apply Wk.drop))) (fun _ => rfl))) HsF.nil) (List.forall_mem_cons.2 ⟨Nat.le_of_ble_eq_true rfl, (List.forall_mem_nil _)⟩) (by repeat (first | exact Wk.nil | apply Wk.keep | apply Wk.drop))) (fun s9 => (sv_ifR (et_or (et_not (et_tru (Ev.x (ev_call (dds := []) (ea_cons (ev_var (i := 3) (d := t7.2) rfl) ea_nil))))) (et_test (ev_op o2_ne (Ev.x (ev_b1 o1_len (Ev.x (ev_var (i := 3) (d := t7.2) rfl)))) (Ev.x (ev_op o2_add (Ev.x (ev_b1 o1_len (Ev.x (ev_var (i := 2) (d := t7.1) rfl)))) (Ev.x ev_int)))))) wkU (sv_ret ev_str wkU) (sv_skip (sv_ifR (et_not (et_tru (Ev.x (ev_b1 o1_all (Ev.x (ev_new (el_lc (ei_sq (ev_var (i := 3) (d := t7.2) rfl)) (fun _ _ => (tg_name 4)) (fun t32 _ _ => et_yes) (fun t32 _ _ => (ev_call (dds := []) (ea_cons (ev_b1 o1_len (Ev.x (ev_var (i := 0) (d := a_firsts) rfl))) (ea_cons (ev_var (i := 4) (d := t32) rfl) ea_nil)))) (hO := (List.forall_mem_cons.2 ⟨rfl, (List.forall_mem_nil _)⟩))))))))) wkU (sv_ret ev_str wkU) (sv_skip (sv_ret (ev_ifE (et_test (ev_op o2_eq (Ev.x (ev_b1 o1_tuple (Ev.x (ev_op o2_ix (Ev.x (ev_var (i := 3) (d := t7.2) rfl)) (Ev.x ev_int))))) (Ev.x (ev_var (i := 0) (d := a_firsts) rfl)))) ev_non ev_str) wkU))))))))))) ⟨cells_start (n := 3) r rfl, by simpa using wd⟩ (fun _ _ _ _ h => h) e
theorem sc_check_sights : FnScope ["firsts", "sights", "most", "starts", "index", "sight", "word", "script", "rows", "row"] ["firsts", "sights", "most"] (defScope s_check_sights) := ⟨rfl, rfl, rfl, by decide +kernel, rfl, by decide +kernel, by decide +kernel⟩
theorem ok_check_sights (T : Tx K mg A) : FnG P w K mg base (L2.CX P w) 7 A.a_check_sights A.d_check_sights ["firsts", "sights", "most"] (spM (Zo K A) m_check_sights) :=
  fnD_okG T.F_check_sights sc_check_sights (fun vs H Q E h => spM_len (fun S ds h => match ds, h with | [], _ => rfl | [_], _ => rfl | [_, _], _ => rfl | [_, _, _], h => absurd rfl h | _ :: _ :: _ :: _ :: _, _ => rfl) h) fun cdv A' outer s H vs Q E hg hr h => by
    obtain ⟨S, lay, G, s0, ds, wd, r, e⟩ := h
    match ds, r, e with
    | [], _, e => exact e.elim
    | [_], _, e => exact e.elim
    | [_, _], _, e => exact e.elim
    | _ :: _ :: _ :: _ :: _, _, e => exact e.elim
    | [a_firsts, a_sights, a_most], r, e =>
    refine ⟨_, (pss_cons (ps_set (i := 3) sc_check_sights.nd rfl (by first | exact Or.inl rfl | exact Or.inr rfl) (by exact (pe_callG (by exact hg) (ok_check_firsts T) (hr.mono (by first | decide | exact Nat.le_refl _ | omega | (simp only [Nat.add_eq]; omega))) rfl T.g_check_firsts T.F_check_firsts.kp T.b_check_firsts .nil (fun σ => passAt (takes_of rfl rfl rfl rfl) σ) (by exact (pa_cons pe_non (pa_cons (pv 0) pa_nil)))))) (pss_cons (ps_if (PW.pt (pw_or (pt_not (pt_truK (K := K) rfl (pe_callG (by exact hg) (ok_is_sequence T) (hr.mono (by first | decide | exact Nat.le_refl _ | omega | (simp only [Nat.add_eq]; omega))) rfl T.g_is_sequence T.F_is_sequence.kp T.b_is_sequence .nil (fun σ => passAt (takes_of rfl rfl rfl rfl) σ) (by exact (pa_cons (pv 1) pa_nil))) (fun _ => rfl))) (pw_or1 (pt_cmpR op_gt (pe_callB (call_lnK (K := K) rfl) rfl T.n_len rfl (pa_cons (pv 1) pa_nil)) (pv 2) (nomark _))))) (pss_one (ps_raise rfl (takes_of rfl rfl rfl rfl) (pmk_oex T.o_BadSight T.i_BadSight T.t_BadSight (oki_BadSight T) (k := 1) (hr.mono (by decide)) T.bi_BadSight .nil passF rfl T.g_BadSight (pa_cons pe_int (pa_cons pe_str pa_nil))))) pss_nil) (pss_cons (ps_for PassesOwn.leaving rfl (pi_enK (K := K) rfl rfl T.n_enumerate (pa_cons (pv 1) pa_nil)) (pg_tupK (K := K) (n := 2) rfl rfl (pgs_cons (pg_name (i := 4) sc_check_sights.nd rfl (by first | exact Or.inl rfl | exact Or.inr rfl)) (pgs_cons (pg_name (i := 5) sc_check_sights.nd rfl (by first | exact Or.inl rfl | exact Or.inr rfl)) pgs_nil))) (pss_cons (ps_set (i := 6) sc_check_sights.nd rfl (by first | exact Or.inl rfl | exact Or.inr rfl) (by exact (pe_callG (by exact hg) (ok__sight_fault T) (hr.mono (by first | decide | exact Nat.le_refl _ | omega | (simp only [Nat.add_eq]; omega))) rfl T.g__sight_fault T.F__sight_fault.kp T.b__sight_fault .nil (fun σ => passAt (takes_of rfl rfl rfl rfl) σ) (by exact (pa_cons (pv 3) (pa_cons (pv 5) pa_nil)))))) (pss_one (ps_if (pt_cmpR op_notN (pv 6) pe_non (nomark _)) (pss_one (ps_raise rfl (takes_of rfl rfl rfl rfl) (pmk_oex T.o_BadSight T.i_BadSight T.t_BadSight (oki_BadSight T) (k := 1) (hr.mono (by decide)) T.bi_BadSight .nil passF rfl T.g_BadSight (pa_cons (pv 4) (pa_cons (pv 6) pa_nil))))) pss_nil)))) (pss_one (ps_ret (by exact (pe_callTy (call_tupK (K := K) rfl) rfl T.n_tuple rfl (pa_cons (pe_lc (own := [("script", 7), ("rows", 8)]) rfl sc_check_sights.nd (pi_sqK (K := K) rfl (pv 1)) (blkOk_by (N := ["firsts", "sights", "most", "starts", "index", "sight", "word", "script", "rows", "row"]) (sc := defScope s_check_sights) (by decide +kernel)) (fun _ _ _ _ _ => by exact (pg_seqK (K := K) rfl (n := 2) rfl (pgs_cons (pg_name (i := 7) sc_check_sights.nd rfl (Or.inl rfl)) (pgs_cons (pg_name (i := 8) sc_check_sights.nd rfl (Or.inl rfl)) pgs_nil)))) (fun _ _ _ _ _ => by exact pts_nil) (fun _ _ _ _ _ => by exact (pe_tup (pa_cons (pe_callG (by exact hg) (ok_check_script T) (hr.mono (by first | decide | exact Nat.le_refl _ | omega | (simp only [Nat.add_eq]; omega))) rfl T.g_check_script T.F_check_script.kp T.b_check_script .nil (passN (fun _ _ _ _ q => q)) (by exact (pa_cons (pe_callB (call_lnK (K := K) rfl) rfl T.n_len rfl (pa_cons (pv 3) pa_nil)) (pa_cons (pv 7) pa_nil)))) (pa_cons (pe_callTy (call_tupK (K := K) rfl) rfl T.n_tuple rfl (pa_cons (pe_lc (own := [("row", 9)]) rfl sc_check_sights.nd (pi_sqK (K := K) rfl (pv 8)) (blkOk_in (N := ["firsts", "sights", "most", "starts", "index", "sight", "word", "script", "rows", "row"]) (sc := defScope s_check_sights) rfl (by decide +kernel)) (fun _ _ _ _ _ => by exact (pg_name (i := 9) sc_check_sights.nd rfl (Or.inl rfl))) (fun _ _ _ _ _ => by exact pts_nil) (fun _ _ _ _ _ => by exact (pe_callTy (call_tupK (K := K) rfl) rfl T.n_tuple rfl (pa_cons (pv 9) pa_nil)))) pa_nil)) pa_nil))))) pa_nil)))))))), ?_⟩
    exact body_ok (ρ := [.P a_firsts, .P a_sights, .P a_most, .U, .U, .U, .U, .U, .U, .U]) (J := ⟨Zo K A, lay, fun cls d _ H => E cls d H⟩) (esc := List.replicate 10 .U) (sv_seq (e := fun (v_starts_1 : D) => ([.P a_firsts, .P a_sights, .P a_most, .P v_starts_1, .U, .U, .U, .U, .U, .U] : Dm.Env)) (sv_asg (ev_call (dds := []) (ea_cons ev_non (ea_cons (ev_var (i := 0) (d := a_firsts) rfl) ea_nil))) wkU) (fun v_starts_1 => (sv_ifR (et_or (et_not (et_tru (Ev.x (ev_call (dds := []) (ea_cons (ev_var (i := 1) (d := a_sights) rfl) ea_nil))))) (et_test (ev_op o2_gt (Ev.x (ev_b1 o1_len (Ev.x (ev_var (i := 1) (d := a_sights) rfl)))) (Ev.x (ev_var (i := 2) (d := a_most) rfl))))) wkU (sv_raise (c := 3) (okD := okD_BadSight) (ea_cons ev_int (ea_cons ev_str ea_nil)) wkU (okD_BadSight_ok K A)) (sv_skip (sv_seq (e := fun (s24 : Unit) => ([.P a_firsts, .P a_sights, .P a_most, .P v_starts_1, .U, .U, .U, .U, .U, .U] : Dm.Env)) (sv_wk (Wk.keep (Wk.keep (Wk.keep (Wk.keep (Wk.keep (Wk.keep (Wk.keep (Wk.keep (Wk.keep (Wk.keep Wk.nil)))))))))) (sv_forN (e := fun (s24 : Unit) => ([.P a_firsts, .P a_sights, .P a_most, .P v_starts_1, .U, .U, .U, .U, .U, .U] : Dm.Env)) () (ei_en (ev_var (i := 1) (d := a_sights) rfl)) wkU (tg_pair 4 5) (fun t25 s24 => (sv_seq (e := fun (v_word_26 : D) => ([.P a_firsts, .P a_sights, .P a_most, .P v_starts_1, .P t25.1, .P t25.2, .P v_word_26, .U, .U, .U] : Dm.Env)) (sv_asg (ev_call (dds := []) (ea_cons (ev_var (i := 3) (d := v_starts_1) rfl) (ea_cons (ev_var (i := 5) (d := t25.2) rfl) ea_nil))) wkU) (fun v_word_26 => (sv_if (et_test (ev_op o2_nis (Ev.x (ev_var (i := 6) (d := v_word_26) rfl)) (Ev.x ev_non))) wkU (sv_raise (c := 3) (okD := okD_BadSight) (ea_cons (ev_var (i := 4) (d := t25.1) rfl) (ea_cons (ev_var (i := 6) (d := v_word_26) rfl) ea_nil)) wkU (okD_BadSight_ok K A)) (sv_to (g := fun _ => ()) sv_next (fun _ => (Wk.keep (Wk.keep (Wk.keep (Wk.keep (Wk.drop (Wk.drop (Wk.drop (Wk.keep (Wk.keep (Wk.keep Wk.nil)))))))))))))))))) (fun s24 => (sv_ret (ev_b1 o1_tuple (Ev.x (ev_new (el_lc (ei_sq (ev_var (i := 1) (d := a_sights) rfl)) (fun _ _ => (tg_pairS 7 8)) (fun t42 _ _ => et_yes) (fun t42 _ _ => (ev_tup (ea_cons (ev_call (dds := []) (ea_cons (ev_b1 o1_len (Ev.x (ev_var (i := 3) (d := v_starts_1) rfl))) (ea_cons (ev_var (i := 7) (d := t42.1) rfl) ea_nil))) (ea_cons (ev_b1 o1_tuple (Ev.x (ev_new (el_lc (ei_sq (ev_var (i := 8) (d := t42.2) rfl)) (fun _ _ => (tg_name 9)) (fun t44 _ _ => et_yes) (fun t44 _ _ => (ev_b1 o1_tuple (Ev.x (ev_var (i := 9) (d := t44) rfl)))) (hO := (List.forall_mem_cons.2 ⟨rfl, (List.forall_mem_nil _)⟩)))))) ea_nil)))) (hO := (List.forall_mem_cons.2 ⟨rfl, (List.forall_mem_cons.2 ⟨rfl, (List.forall_mem_nil _)⟩)⟩)))))) wkU))))))) ⟨cells_start (n := 7) r rfl, by simpa using wd⟩ (fun _ _ _ _ h => h) e
theorem sc__law_mixed : FnScope ["_law_number_here", "_law_turn", "_law_once", "_law_twice"] ["_law_number_here", "_law_turn"] (defScope s__law_mixed) := ⟨rfl, rfl, rfl, by decide +kernel, rfl, by decide +kernel, by decide +kernel⟩
theorem ok__law_mixed (T : Tx K mg A) : FnG P w K mg base (L2.CX P w) 1 A.a__law_mixed A.d__law_mixed ["_law_number_here", "_law_turn"] (spM (Zo K A) m__law_mixed) :=
  fnD_okG T.F__law_mixed sc__law_mixed (fun vs H Q E h => spM_len (fun S ds h => match ds, h with | [], _ => rfl | [_], _ => rfl | [_, _], h => absurd rfl h | _ :: _ :: _ :: _, _ => rfl) h) fun cdv A' outer s H vs Q E hg hr h => by
    obtain ⟨S, lay, G, s0, ds, wd, r, e⟩ := h
    match ds, r, e with
    | [], _, e => exact e.elim
    | [_], _, e => exact e.elim
    | _ :: _ :: _ :: _, _, e => exact e.elim
    | [a_number_here, a_turn], r, e =>
    refine ⟨_, (pss_cons (ps_set (i := 2) sc__law_mixed.nd rfl (by first | exact Or.inl rfl | exact Or.inr rfl) (by exact (pe_op op_modN (pe_callTy call_int1 rfl T.n_int rfl (pa_cons (pe_op (op_addK (K := K) rfl) (pe_op (op_addK (K := K) rfl) (pe_op op_mulG (pv 0) pe_int) (pe_op op_mulG (pv 1) pe_int)) pe_int) pa_nil)) pe_int))) (pss_cons (ps_set (i := 3) sc__law_mixed.nd rfl (by first | exact Or.inl rfl | exact Or.inr rfl) (by exact (pe_op op_modN (pe_callTy call_int1 rfl T.n_int rfl (pa_cons (pe_op (op_addK (K := K) rfl) (pe_op (op_addK (K := K) rfl) (pe_op op_mulG (pv 2) (pv 2)) (pe_op op_mulG (pv 1) pe_int)) (pe_op op_fdivW (pv 2) pe_int)) pa_nil)) pe_int))) (pss_one (ps_ret (by exact (pe_op op_fdivW (pe_callTy call_int1 rfl T.n_int rfl (pa_cons (pe_op op_modN (pe_callTy call_int1 rfl T.n_int rfl (pa_cons (pe_op (op_addK (K := K) rfl) (pe_op op_mulG (pv 3) pe_int) (pe_op op_fdivW (pv 2) pe_int)) pa_nil)) pe_int) pa_nil)) pe_int)))))), ?_⟩
    exact body_ok (ρ := [.P a_number_here, .P a_turn, .U, .U]) (J := ⟨Zo K A, lay, fun cls d _ H => E cls d H⟩) (esc := List.replicate 4 .U) (sv_seq (e := fun (v_once_1 : D) => ([.P a_number_here, .P a_turn, .P v_once_1, .U] : Dm.Env)) (sv_asg (ev_op o2_mod (Ev.x (ev_b1 o1_int (Ev.x (ev_op o2_add (Ev.x (ev_op o2_add (Ev.x (ev_op o2_mul (Ev.x (ev_var (i := 0) (d := a_number_here) rfl)) (Ev.x ev_int))) (Ev.x (ev_op o2_mul (Ev.x (ev_var (i := 1) (d := a_turn) rfl)) (Ev.x ev_int))))) (Ev.x ev_int))))) (Ev.x ev_int)) wkU) (fun v_once_1 => (sv_seq (e := fun (v_twice_13 : D) => ([.P a_number_here, .P a_turn, .P v_once_1, .P v_twice_13] : Dm.Env)) (sv_asg (ev_op o2_mod (Ev.x (ev_b1 o1_int (Ev.x (ev_op o2_add (Ev.x (ev_op o2_add (Ev.x (ev_op o2_mul (Ev.x (ev_var (i := 2) (d := v_once_1) rfl)) (Ev.x (ev_var (i := 2) (d := v_once_1) rfl)))) (Ev.x (ev_op o2_mul (Ev.x (ev_var (i := 1) (d := a_turn) rfl)) (Ev.x ev_int))))) (Ev.x (ev_op o2_div (Ev.x (ev_var (i := 2) (d := v_once_1) rfl)) (Ev.x ev_int))))))) (Ev.x ev_int)) wkU) (fun v_twice_13 => (sv_ret (ev_op o2_div (Ev.x (ev_b1 o1_int (Ev.x (ev_op o2_mod (Ev.x (ev_b1 o1_int (Ev.x (ev_op o2_add (Ev.x (ev_op o2_mul (Ev.x (ev_var (i := 3) (d := v_twice_13) rfl)) (Ev.x ev_int))) (Ev.x (ev_op o2_div (Ev.x (ev_var (i := 2) (d := v_once_1) rfl)) (Ev.x ev_int))))))) (Ev.x ev_int))))) (Ev.x ev_int)) wkU))))) ⟨cells_start (n := 2) r rfl, by simpa using wd⟩ (fun _ _ _ _ h => h) e
theorem sc__law_take : FnScope ["_law_hand_here", "_law_many", "_law_cell", "_law_rest"] ["_law_hand_here", "_law_many"] (defScope s__law_take) := ⟨rfl, rfl, rfl, by decide +kernel, rfl, by decide +kernel, by decide +kernel⟩
theorem ok__law_take (T : Tx K mg A) : FnG P w K mg base (L2.CX P w) 2 A.a__law_take A.d__law_take ["_law_hand_here", "_law_many"] (spD (Zo K A) m__law_take) :=
  fnD_okG T.F__law_take sc__law_take (fun vs H Q E h => spD_len (fun cs ds h => match ds, h with | [], _ => rfl | [_], h => absurd rfl h | _ :: _ :: _, _ => rfl) h) fun cdv A' outer s H vs Q E hg hr h => by
    obtain ⟨p, c, cells, L0, G, s0, vs', ds, rfl, hf, wd, r, e⟩ := h
    have hJ : HandJ (⟨Zo K A, fun h => (p, hHO c h) :: L0, fun cls d _ H => E cls d H⟩ : Jc Hd) p c := ⟨[], L0, fun _ => rfl⟩
    match ds, r, e with
    | [], _, e => exact e.elim
    | _ :: _ :: _, _, e => exact e.elim
    | [a_many], r, e =>
    refine ⟨_, (pss_cons (ps_if (PW.pt (pw_and (pt_cmpR (op_eqK (K := K) rfl hr.units) (pe_ix (ix_seqK (K := K) rfl) (pv 0) pe_int (fun _ _ => rfl)) pe_int (nomark _)) (pw_and1 (pt_cmpR op_lt (pe_ix (ix_seqK (K := K) rfl) (pv 0) pe_int (fun _ _ => rfl)) (pe_callB (call_lnK (K := K) rfl) rfl T.n_len rfl (pa_cons (pe_ix (ix_seqK (K := K) rfl) (pv 0) pe_int (fun _ _ => rfl)) pa_nil)) (nomark _))))) (pss_cons (ps_set (i := 2) sc__law_take.nd rfl (by first | exact Or.inl rfl | exact Or.inr rfl) (by exact (pe_ix (ix_seqK (K := K) rfl) (pe_ix (ix_seqK (K := K) rfl) (pv 0) pe_int (fun _ _ => rfl)) (pe_ix (ix_seqK (K := K) rfl) (pv 0) pe_int (fun _ _ => rfl)) (fun _ _ => rfl)))) (pss_cons (ps_asg (pe_op (op_addK (K := K) rfl) (pe_ix (ix_seqK (K := K) rfl) (pv 0) pe_int (fun _ _ => rfl)) pe_int) (pg_sub (pv 0) pe_int set_list)) (pss_cons (ps_if (pt_cmpR op_lt (pv 2) (pe_op op_pow pe_int pe_int) (nomark _)) (pss_one (ps_ret (by exact (pe_op op_modN (pe_callTy call_int1 rfl T.n_int rfl (pa_cons (pe_callG (by exact hg) (ok__law_mixed T) (hr.mono (by first | decide | exact Nat.le_refl _ | omega | (simp only [Nat.add_eq]; omega))) rfl T.g__law_mixed T.F__law_mixed.kp T.b__law_mixed .nil (fun σ => passAt (takes_of rfl rfl rfl rfl) σ) (by exact (pa_cons (pe_op op_modN (pe_callTy call_int1 rfl T.n_int rfl (pa_cons (pv 2) pa_nil)) pe_int) (pa_cons (pe_ix (ix_seqK (K := K) rfl) (pv 0) pe_int (fun _ _ => rfl)) pa_nil)))) pa_nil)) (pv 1))))) pss_nil) (pss_cons (ps_asg (pv 2) (pg_sub (pv 0) pe_int set_list)) pss_nil)))) pss_nil) (pss_cons (ps_if (pt_cmpR op_gt (pe_ix (ix_seqK (K := K) rfl) (pv 0) pe_int (fun _ _ => rfl)) pe_int (nomark _)) (pss_cons (ps_set (i := 3) sc__law_take.nd rfl (by first | exact Or.inl rfl | exact Or.inr rfl) (by exact (pe_ix (ix_seqK (K := K) rfl) (pv 0) pe_int (fun _ _ => rfl)))) (pss_cons (ps_asg (pe_op op_fdivW (pe_callTy call_int1 rfl T.n_int rfl (pa_cons (pv 3) pa_nil)) (pv 1)) (pg_sub (pv 0) pe_int set_list)) (pss_one (ps_ret (by exact (pe_op op_modN (pe_callTy call_int1 rfl T.n_int rfl (pa_cons (pv 3) pa_nil)) (pv 1))))))) pss_nil) (pss_cons (ps_asg (pe_op op_modN (pe_callTy call_int1 rfl T.n_int rfl (pa_cons (pe_op (op_addK (K := K) rfl) (pe_ix (ix_seqK (K := K) rfl) (pv 0) pe_int (fun _ _ => rfl)) pe_int) pa_nil)) pe_int) (pg_sub (pv 0) pe_int set_list)) (pss_one (ps_ret (by exact (pe_op op_modN (pe_callTy call_int1 rfl T.n_int rfl (pa_cons (pe_callG (by exact hg) (ok__law_mixed T) (hr.mono (by first | decide | exact Nat.le_refl _ | omega | (simp only [Nat.add_eq]; omega))) rfl T.g__law_mixed T.F__law_mixed.kp T.b__law_mixed .nil (fun σ => passAt (takes_of rfl rfl rfl rfl) σ) (by exact (pa_cons (pe_ix (ix_seqK (K := K) rfl) (pv 0) pe_int (fun _ _ => rfl)) (pa_cons (pe_ix (ix_seqK (K := K) rfl) (pv 0) pe_int (fun _ _ => rfl)) pa_nil)))) pa_nil)) (pv 1)))))))), ?_⟩
    exact bodyD_ok (ρ := [.A p (hF c cells), .P a_many, .U, .U]) (J := ⟨Zo K A, fun h => (p, hHO c h) :: L0, fun cls d _ H => E cls d H⟩) (esc := List.replicate 4 .U) (sv_frD (e := fun (s10 : Unit) => ([.A p (hF c cells), .P a_many, .U, .U] : Dm.Env)) (sv_if (et_and (et_test (ev_op o2_eq (Ev.x (ev_hget (cells := cells) 2 hJ rfl)) (Ev.x ev_int))) (et_test (ev_op o2_lt (Ev.x (ev_hget (cells := cells) 1 hJ rfl)) (Ev.x (ev_b1 o1_len (Ev.x (ev_hget (cells := cells) 0 hJ rfl))))))) wkU (sv_seq (e := fun (v_cell_11 : D) => ([.A p (hF c cells), .P a_many, .P v_cell_11, .U] : Dm.Env)) (sv_asg (ev_op o2_ix (Ev.x (ev_hget (cells := cells) 0 hJ rfl)) (Ev.x (ev_hget (cells := cells) 1 hJ rfl))) wkU) (fun v_cell_11 => (sv_seq (e := fun (_ : Unit) => ([.A p (hF c cells), .P a_many, .P v_cell_11, .U] : Dm.Env)) (sv_hput 1 hJ rfl (ev_op o2_add (Ev.x (ev_hget (cells := cells) 1 hJ rfl)) (Ev.x ev_int)) wkU) (fun _ => (sv_ifRr (γ := Unit) (et_test (ev_op o2_lt (Ev.x (ev_var (i := 2) (d := v_cell_11) rfl)) (Ev.x (ev_op o2_pow (Ev.x ev_int) (Ev.x ev_int))))) wkU (sv_ret (ev_op o2_mod (Ev.x (ev_b1 o1_int (Ev.x (ev_call (dds := []) (ea_cons (ev_op o2_mod (Ev.x (ev_b1 o1_int (Ev.x (ev_var (i := 2) (d := v_cell_11) rfl)))) (Ev.x ev_int)) (ea_cons (ev_hget (cells := cells) 1 hJ rfl) ea_nil)))))) (Ev.x (ev_var (i := 1) (d := a_many) rfl))) wkU) (sv_skip (sv_seq (e := fun (_ : Unit) => ([.A p (hF c cells), .P a_many, .P v_cell_11, .U] : Dm.Env)) (sv_hput 2 hJ rfl (ev_var (i := 2) (d := v_cell_11) rfl) wkU) (fun _ => (sv_to (g := fun _ => Fr.nx ()) sv_next (fun _ => (Wk.keep (Wk.keep (Wk.drop (Wk.keep Wk.nil)))))))))))))) (sv_to (g := fun _ => Fr.nx ()) sv_next (fun _ => (Wk.keep (Wk.keep (Wk.keep (Wk.keep Wk.nil))))))) (fun s10 => (sv_ifR (et_test (ev_op o2_gt (Ev.x (ev_hget (cells := cells) 2 hJ rfl)) (Ev.x ev_int))) wkU (sv_seq (e := fun (v_rest_39 : D) => ([.A p (hF c cells), .P a_many, .U, .P v_rest_39] : Dm.Env)) (sv_asg (ev_hget (cells := cells) 2 hJ rfl) wkU) (fun v_rest_39 => (sv_seq (e := fun (_ : Unit) => ([.A p (hF c cells), .P a_many, .U, .P v_rest_39] : Dm.Env)) (sv_hput 2 hJ rfl (ev_op o2_div (Ev.x (ev_b1 o1_int (Ev.x (ev_var (i := 3) (d := v_rest_39) rfl)))) (Ev.x (ev_var (i := 1) (d := a_many) rfl))) wkU) (fun _ => (sv_ret (ev_op o2_mod (Ev.x (ev_b1 o1_int (Ev.x (ev_var (i := 3) (d := v_rest_39) rfl)))) (Ev.x (ev_var (i := 1) (d := a_many) rfl))) wkU))))) (sv_skip (sv_seq (e := fun (_ : Unit) => ([.A p (hF c cells), .P a_many, .U, .U] : Dm.Env)) (sv_hput 3 hJ rfl (ev_op o2_mod (Ev.x (ev_b1 o1_int (Ev.x (ev_op o2_add (Ev.x (ev_hget (cells := cells) 3 hJ rfl)) (Ev.x ev_int))))) (Ev.x ev_int)) wkU) (fun _ => (sv_ret (ev_op o2_mod (Ev.x (ev_b1 o1_int (Ev.x (ev_call (dds := []) (ea_cons (ev_hget (cells := cells) 3 hJ rfl) (ea_cons (ev_hget (cells := cells) 1 hJ rfl) ea_nil)))))) (Ev.x (ev_var (i := 1) (d := a_many) rfl))) wkU))))))) ⟨cells_hand (n := 2) hf r rfl, by simpa using wd⟩ (fun _ _ _ _ h => h) e
theorem sc__law_colour : FnScope ["_law_hand_here", "_law_kind"] ["_law_hand_here"] (defScope s__law_colour) := ⟨rfl, rfl, rfl, by decide +kernel, rfl, by decide +kernel, by decide +kernel⟩
theorem ok__law_colour (T : Tx K mg A) : FnG P w K mg base (L2.CX P w) 3 A.a__law_colour A.d__law_colour ["_law_hand_here"] (spD (Zo K A) m__law_colour) :=
  fnD_okG T.F__law_colour sc__law_colour (fun vs H Q E h => spD_len (fun cs ds h => match ds, h with  | [], h => absurd rfl h | _ :: _, _ => rfl) h) fun cdv A' outer s H vs Q E hg hr h => by
    obtain ⟨p, c, cells, L0, G, s0, vs', ds, rfl, hf, wd, r, e⟩ := h
    have hJ : HandJ (⟨Zo K A, fun h => (p, hHO c h) :: L0, fun cls d _ H => E cls d H⟩ : Jc Hd) p c := ⟨[], L0, fun _ => rfl⟩
    match ds, r, e with
    | _ :: _, _, e => exact e.elim
    | [], r, e =>
    refine ⟨_, (pss_cons (ps_set (i := 1) sc__law_colour.nd rfl (by first | exact Or.inl rfl | exact Or.inr rfl) (by exact (pe_callG (by exact hg) (ok__law_take T) (hr.mono (by first | decide | exact Nat.le_refl _ | omega | (simp only [Nat.add_eq]; omega))) rfl T.g__law_take T.F__law_take.kp T.b__law_take .nil (fun σ => passAt (takes_of rfl rfl rfl rfl) σ) (by exact (pa_cons (pv 0) (pa_cons pe_int pa_nil)))))) (pss_one (ps_ret (by exact (pe_ifExp (pt_cmpR (op_eqK (K := K) rfl hr.units) (pv 1) pe_int (nomark _)) (pe_callG (by exact hg) (ok__law_take T) (hr.mono (by first | decide | exact Nat.le_refl _ | omega | (simp only [Nat.add_eq]; omega))) rfl T.g__law_take T.F__law_take.kp T.b__law_take .nil (fun σ => passAt (takes_of rfl rfl rfl rfl) σ) (by exact (pa_cons (pv 0) (pa_cons pe_int pa_nil)))) (pe_ifExp (pt_cmpR op_lt (pv 1) pe_int (nomark _)) (pe_callG (by exact hg) (ok__law_take T) (hr.mono (by first | decide | exact Nat.le_refl _ | omega | (simp only [Nat.add_eq]; omega))) rfl T.g__law_take T.F__law_take.kp T.b__law_take .nil (fun σ => passAt (takes_of rfl rfl rfl rfl) σ) (by exact (pa_cons (pv 0) (pa_cons pe_int pa_nil)))) (pe_callG (by exact hg) (ok__law_take T) (hr.mono (by first | decide | exact Nat.le_refl _ | omega | (simp only [Nat.add_eq]; omega))) rfl T.g__law_take T.F__law_take.kp T.b__law_take .nil (fun σ => passAt (takes_of rfl rfl rfl rfl) σ) (by exact (pa_cons (pv 0) (pa_cons pe_int pa_nil)))))))))), ?_⟩
    exact bodyD_ok (ρ := [.A p (hF c cells), .U]) (J := ⟨Zo K A, fun h => (p, hHO c h) :: L0, fun cls d _ H => E cls d H⟩) (esc := List.replicate 2 .U) (sv_seq (e := fun (v_kind_1 : D) => ([.A p (hF c cells), .P v_kind_1] : Dm.Env)) (sv_asg (ev_callD (dds := []) hJ rfl (ea_cons ev_int ea_nil)) wkU) (fun v_kind_1 => (sv_ret (ev_ifE (et_test (ev_op o2_eq (Ev.x (ev_var (i := 1) (d := v_kind_1) rfl)) (Ev.x ev_int))) (ev_callD (dds := []) hJ rfl (ea_cons ev_int ea_nil)) (ev_ifE (et_test (ev_op o2_lt (Ev.x (ev_var (i := 1) (d := v_kind_1) rfl)) (Ev.x ev_int))) (ev_callD (dds := []) hJ rfl (ea_cons ev_int ea_nil)) (ev_callD (dds := []) hJ rfl (ea_cons ev_int ea_nil)))) wkU))) ⟨cells_hand (n := 1) hf r rfl, by simpa using wd⟩ (fun _ _ _ _ h => h) e
theorem sc__law_tuples : FnScope ["_law_thing", "_law_item"] ["_law_thing"] (defScope s__law_tuples) := ⟨rfl, rfl, rfl, by decide +kernel, rfl, by decide +kernel, by decide +kernel⟩
theorem ok__law_tuples (T : Tx K mg A) : ∀ k : Nat, FnG P w K mg base (L2.CX P w) (1 + k) A.a__law_tuples A.d__law_tuples ["_law_thing"] (spM (Zo K A) (m__law_tuples k)) :=
  fun k => by
    induction k with
    | zero => exact fnD_okG T.F__law_tuples sc__law_tuples (fun vs H Q E h => by obtain ⟨S, lay, G, s0, ds, wd, r, e⟩ := h; exact e.elim) fun cdv A' outer s H vs Q E hg hr h => by obtain ⟨S, lay, G, s0, ds, wd, r, e⟩ := h; exact e.elim
    | succ k ih =>
    refine fnD_okG T.F__law_tuples sc__law_tuples (fun vs H Q E h => spM_len (fun S ds h => match ds, h with | [], _ => rfl | [_], h => absurd rfl h | _ :: _ :: _, _ => rfl) h) fun cdv A' outer s H vs Q E hg hr h => ?_
    obtain ⟨S, lay, G, s0, ds, wd, r, e⟩ := h
    match ds, r, e with
    | [], _, e => exact e.elim
    | _ :: _ :: _, _, e => exact e.elim
    | [a_thing], r, e =>
    refine ⟨_, (pss_cons (ps_if (pt_truK (K := K) rfl (pe_callB (call_isiK (K := K) rfl) rfl T.n_isinstance rfl (pa_cons (pv 0) (pa_cons (pe_bltn (v := .ty "tuple") rfl T.n_tuple rfl rfl) pa_nil))) (fun _ => rfl)) (pss_one (ps_ret (by exact (pe_notTK (K := K) rfl (pe_lc (own := [("_law_item", 1)]) rfl sc__law_tuples.nd (pi_sqK (K := K) rfl (pv 0)) (blkOk_by (N := ["_law_thing", "_law_item"]) (sc := defScope s__law_tuples) (by decide +kernel)) (fun _ _ _ _ _ => by exact (pg_name (i := 1) sc__law_tuples.nd rfl (Or.inl rfl))) (fun _ _ _ _ _ => by exact (pts_one (pt_not (pt_truK (K := K) rfl (pe_callG (by exact hg) ih (hr.mono (by first | decide | exact Nat.le_refl _ | omega | (simp only [Nat.add_eq]; omega))) rfl T.g__law_tuples T.F__law_tuples.kp T.b__law_tuples .nil (passN (fun _ _ _ _ q => q)) (by exact (pa_cons (pv 1) pa_nil))) (fun _ => rfl))))) (fun _ _ _ _ _ => by exact pe_int)))))) pss_nil) (pss_one (ps_ret (by exact (pe_or (pe_cmpR op_isN (pv 0) pe_non (nomark _)) (pe_one (pe_and (pe_callB (call_isiK (K := K) rfl) rfl T.n_isinstance rfl (pa_cons (pv 0) (pa_cons (pe_bltn (v := .ty "int") rfl T.n_int rfl rfl) pa_nil))) (pe_one (pe_not (pe_callB (call_isiK (K := K) rfl) rfl T.n_isinstance rfl (pa_cons (pv 0) (pa_cons (pe_bltn (v := .ty "bool") rfl T.n_bool rfl rfl) pa_nil)))))))))))), ?_⟩
    exact body_ok (ρ := [.P a_thing, .U]) (J := ⟨Zo K A, lay, fun cls d _ H => E cls d H⟩) (esc := List.replicate 2 .U) (sv_ifR (et_tru (Ev.x (ev_isa .tuple (Ev.x (ev_var (i := 0) (d := a_thing) rfl))))) wkU (sv_ret (ev_notT (Ev.x (ev_new (el_lc (ei_sq (ev_var (i := 0) (d := a_thing) rfl)) (fun _ _ => (tg_name 1)) (fun t5 _ _ => (et_not (et_tru (Ev.x (ev_call (dds := []) (ea_cons (ev_var (i := 1) (d := t5) rfl) ea_nil)))))) (fun t5 _ _ => ev_int) (hO := (List.forall_mem_cons.2 ⟨rfl, (List.forall_mem_nil _)⟩)))))) wkU) (sv_skip (sv_ret (ev_orV (ev_op o2_is (Ev.x (ev_var (i := 0) (d := a_thing) rfl)) (Ev.x ev_non)) (ev_andV (ev_isa .int (Ev.x (ev_var (i := 0) (d := a_thing) rfl))) (ev_notV (ev_isa .bool (Ev.x (ev_var (i := 0) (d := a_thing) rfl)))))) wkU))) ⟨cells_start (n := 1) r rfl, by simpa using wd⟩ (fun _ _ _ _ h => h) e
theorem sc__law_bare : FnScope ["_law_thing", "_law_item"] ["_law_thing"] (defScope s__law_bare) := ⟨rfl, rfl, rfl, by decide +kernel, rfl, by decide +kernel, by decide +kernel⟩
theorem ok__law_bare (T : Tx K mg A) : ∀ k : Nat, FnG P w K mg base (L2.CX P w) (1 + k) A.a__law_bare A.d__law_bare ["_law_thing"] (spM (Zo K A) (m__law_bare k)) :=
  fun k => by
    induction k with
    | zero => exact fnD_okG T.F__law_bare sc__law_bare (fun vs H Q E h => by obtain ⟨S, lay, G, s0, ds, wd, r, e⟩ := h; exact e.elim) fun cdv A' outer s H vs Q E hg hr h => by obtain ⟨S, lay, G, s0, ds, wd, r, e⟩ := h; exact e.elim
    | succ k ih =>
    refine fnD_okG T.F__law_bare sc__law_bare (fun vs H Q E h => spM_len (fun S ds h => match ds, h with | [], _ => rfl | [_], h => absurd rfl h | _ :: _ :: _, _ => rfl) h) fun cdv A' outer s H vs Q E hg hr h => ?_
    obtain ⟨S, lay, G, s0, ds, wd, r, e⟩ := h
    match ds, r, e with
    | [], _, e => exact e.elim
    | _ :: _ :: _, _, e => exact e.elim
    | [a_thing], r, e =>
    refine ⟨_, (pss_one (ps_ret (by exact (pe_ifExp (pt_truK (K := K) rfl (pe_callB (call_isiTK (K := K) rfl) rfl T.n_isinstance rfl (pa_cons (pv 0) (pa_cons (pe_tup (pa_cons (pe_bltn (v := .ty "list") rfl T.n_list rfl rfl) (pa_cons (pe_bltn (v := .ty "tuple") rfl T.n_tuple rfl rfl) pa_nil))) pa_nil))) (fun _ => rfl)) (pe_callTy (call_tupK (K := K) rfl) rfl T.n_tuple rfl (pa_cons (pe_lc (own := [("_law_item", 1)]) rfl sc__law_bare.nd (pi_sqK (K := K) rfl (pv 0)) (blkOk_by (N := ["_law_thing", "_law_item"]) (sc := defScope s__law_bare) (by decide +kernel)) (fun _ _ _ _ _ => by exact (pg_name (i := 1) sc__law_bare.nd rfl (Or.inl rfl))) (fun _ _ _ _ _ => by exact pts_nil) (fun _ _ _ _ _ => by exact (pe_callG (by exact hg) ih (hr.mono (by first | decide | exact Nat.le_refl _ | omega | (simp only [Nat.add_eq]; omega))) rfl T.g__law_bare T.F__law_bare.kp T.b__law_bare .nil (passN (fun _ _ _ _ q => q)) (by exact (pa_cons (pv 1) pa_nil))))) pa_nil)) (pv 0))))), ?_⟩
    exact body_ok (ρ := [.P a_thing, .U]) (J := ⟨Zo K A, lay, fun cls d _ H => E cls d H⟩) (esc := List.replicate 2 .U) (sv_ret (ev_ifE (et_tru (Ev.x (ev_isas [.list, .tuple] (Ev.x (ev_var (i := 0) (d := a_thing) rfl))))) (ev_b1 o1_tuple (Ev.x (ev_new (el_lc (ei_sq (ev_var (i := 0) (d := a_thing) rfl)) (fun _ _ => (tg_name 1)) (fun t4 _ _ => et_yes) (fun t4 _ _ => (ev_call (dds := []) (ea_cons (ev_var (i := 1) (d := t4) rfl) ea_nil))) (hO := (List.forall_mem_cons.2 ⟨rfl, (List.forall_mem_nil _)⟩)))))) (ev_var (i := 0) (d := a_thing) rfl)) wkU) ⟨cells_start (n := 1) r rfl, by simpa using wd⟩ (fun _ _ _ _ h => h) e
theorem sc__law_lists : FnScope ["_law_hand_here", "_law_thing", "_law_out", "_law_item"] ["_law_hand_here", "_law_thing"] (defScope s__law_lists) := ⟨rfl, rfl, rfl, by decide +kernel, rfl, by decide +kernel, by decide +kernel⟩
theorem ok__law_lists (T : Tx K mg A) : ∀ k : Nat, FnG P w K mg base (L2.CX P w) (3 + k) A.a__law_lists A.d__law_lists ["_law_hand_here", "_law_thing"] (spD (Zo K A) (m__law_lists k)) :=
  fun k => by
    induction k with
    | zero => exact fnD_okG T.F__law_lists sc__law_lists (fun vs H Q E h => by obtain ⟨p, c, cells, L0, G, s0, vs', ds, rfl, hf, wd, r, e⟩ := h; exact e.elim) fun cdv A' outer s H vs Q E hg hr h => by obtain ⟨p, c, cells, L0, G, s0, vs', ds, rfl, hf, wd, r, e⟩ := h; exact e.elim
    | succ k ih =>
    refine fnD_okG T.F__law_lists sc__law_lists (fun vs H Q E h => spD_len (fun cs ds h => match ds, h with | [], _ => rfl | [_], h => absurd rfl h | _ :: _ :: _, _ => rfl) h) fun cdv A' outer s H vs Q E hg hr h => ?_
    obtain ⟨p, c, cells, L0, G, s0, vs', ds, rfl, hf, wd, r, e⟩ := h
    have hJ : HandJ (⟨Zo K A, fun h => (p, hHO c h) :: L0, fun cls d _ H => E cls d H⟩ : Jc Hd) p c := ⟨[], L0, fun _ => rfl⟩
    match ds, r, e with
    | [], _, e => exact e.elim
    | _ :: _ :: _, _, e => exact e.elim
    | [a_thing], r, e =>
    refine ⟨_, (pss_cons (ps_if (pt_not (pt_truK (K := K) rfl (pe_callB (call_isiTK (K := K) rfl) rfl T.n_isinstance rfl (pa_cons (pv 1) (pa_cons (pe_tup (pa_cons (pe_bltn (v := .ty "list") rfl T.n_list rfl rfl) (pa_cons (pe_bltn (v := .ty "tuple") rfl T.n_tuple rfl rfl) pa_nil))) pa_nil))) (fun _ => rfl))) (pss_one (ps_ret (by exact (pv 1)))) pss_nil) (pss_cons (ps_set (i := 2) sc__law_lists.nd rfl (by first | exact Or.inl rfl | exact Or.inr rfl) (by exact (pe_ifExp (pt_cmpR op_lt (pe_callB (call_lnK (K := K) rfl) rfl T.n_len rfl (pa_cons (pv 1) pa_nil)) pe_int (nomark _)) (pe_lc (own := [("_law_item", 3)]) rfl sc__law_lists.nd (pi_sqK (K := K) rfl (pv 1)) (blkOk_by (N := ["_law_hand_here", "_law_thing", "_law_out", "_law_item"]) (sc := defScope s__law_lists) (by decide +kernel)) (fun _ _ _ _ _ => by exact (pg_name (i := 3) sc__law_lists.nd rfl (Or.inl rfl))) (fun _ _ _ _ _ => by exact pts_nil) (fun _ _ _ _ _ => by exact (pe_callG (by exact hg) ih (hr.mono (by first | decide | exact Nat.le_refl _ | omega | (simp only [Nat.add_eq]; omega))) rfl T.g__law_lists T.F__law_lists.kp T.b__law_lists .nil (passN (fun _ _ _ _ q => q)) (by exact (pa_cons (pv 0) (pa_cons (pv 3) pa_nil)))))) (pe_callTy (call_lstK (K := K) rfl) rfl T.n_list rfl (pa_cons (pv 1) pa_nil))))) (pss_one (ps_ret (by exact (pe_ifExp (pt_truK (K := K) rfl (pe_callG (by exact hg) (ok__law_take T) (hr.mono (by first | decide | exact Nat.le_refl _ | omega | (simp only [Nat.add_eq]; omega))) rfl T.g__law_take T.F__law_take.kp T.b__law_take .nil (fun σ => passAt (takes_of rfl rfl rfl rfl) σ) (by exact (pa_cons (pv 0) (pa_cons pe_int pa_nil)))) (fun _ => rfl)) (pv 2) (pe_callTy (call_tupK (K := K) rfl) rfl T.n_tuple rfl (pa_cons (pv 2) pa_nil)))))))), ?_⟩
    exact bodyD_ok (ρ := [.A p (hF c cells), .P a_thing, .U, .U]) (J := ⟨Zo K A, fun h => (p, hHO c h) :: L0, fun cls d _ H => E cls d H⟩) (esc := List.replicate 4 .U) (sv_ifR (et_not (et_tru (Ev.x (ev_isas [.list, .tuple] (Ev.x (ev_var (i := 1) (d := a_thing) rfl)))))) wkU (sv_ret (ev_var (i := 1) (d := a_thing) rfl) wkU) (sv_skip (sv_seq (e := fun (v_out_5 : D) => ([.A p (hF c cells), .P a_thing, .P v_out_5, .U] : Dm.Env)) (sv_asg (ev_ifE (et_test (ev_op o2_lt (Ev.x (ev_b1 o1_len (Ev.x (ev_var (i := 1) (d := a_thing) rfl)))) (Ev.x ev_int))) (ev_new (el_lc (ei_sq (ev_var (i := 1) (d := a_thing) rfl)) (fun _ _ => (tg_name 3)) (fun t11 _ _ => et_yes) (fun t11 _ _ => (ev_callD (dds := []) (HandJ.add hJ) rfl (ea_cons (ev_var (i := 3) (d := t11) rfl) ea_nil))) (hO := (List.forall_mem_cons.2 ⟨rfl, (List.forall_mem_nil _)⟩)))) (ev_new (el_list (Ev.x (ev_var (i := 1) (d := a_thing) rfl))))) wkU) (fun v_out_5 => (sv_ret (ev_ifE (et_tru (Ev.x (ev_callD (dds := []) hJ rfl (ea_cons ev_int ea_nil)))) (ev_var (i := 2) (d := v_out_5) rfl) (ev_b1 o1_tuple (Ev.x (ev_var (i := 2) (d := v_out_5) rfl)))) wkU))))) ⟨cells_hand (n := 2) hf r rfl, by simpa using wd⟩ (fun _ _ _ _ h => h) e
theorem sc__law_odd : FnScope ["_law_hand_here", "_law_bound", "_law_kind"] ["_law_hand_here", "_law_bound"] (defScope s__law_odd) := ⟨rfl, rfl, rfl, by decide +kernel, rfl, by decide +kernel, by decide +kernel⟩
theorem ok__law_odd (T : Tx K mg A) : FnG P w K mg base (L2.CX P w) 3 A.a__law_odd A.d__law_odd ["_law_hand_here", "_law_bound"] (spD (Zo K A) m__law_odd) :=
  fnD_okG T.F__law_odd sc__law_odd (fun vs H Q E h => spD_len (fun cs ds h => match ds, h with | [], _ => rfl | [_], h => absurd rfl h | _ :: _ :: _, _ => rfl) h) fun cdv A' outer s H vs Q E hg hr h => by
    obtain ⟨p, c, cells, L0, G, s0, vs', ds, rfl, hf, wd, r, e⟩ := h
    have hJ : HandJ (⟨Zo K A, fun h => (p, hHO c h) :: L0, fun cls d _ H => E cls d H⟩ : Jc Hd) p c := ⟨[], L0, fun _ => rfl⟩
    match ds, r, e with
    | [], _, e => exact e.elim
    | _ :: _ :: _, _, e => exact e.elim
    | [a_bound], r, e =>
    refine ⟨_, (pss_cons (ps_set (i := 2) sc__law_odd.nd rfl (by first | exact Or.inl rfl | exact Or.inr rfl) (by exact (pe_callG (by exact hg) (ok__law_take T) (hr.mono (by first | decide | exact Nat.le_refl _ | omega | (simp only [Nat.add_eq]; omega))) rfl T.g__law_take T.F__law_take.kp T.b__law_take .nil (fun σ => passAt (takes_of rfl rfl rfl rfl) σ) (by exact (pa_cons (pv 0) (pa_cons pe_int pa_nil)))))) (pss_cons (ps_if (pt_cmpR (op_eqK (K := K) rfl hr.units) (pv 2) pe_int (nomark _)) (pss_one (ps_ret (by exact (pe_op (op_addK (K := K) rfl) (pv 1) (pe_callG (by exact hg) (ok__law_take T) (hr.mono (by first | decide | exact Nat.le_refl _ | omega | (simp only [Nat.add_eq]; omega))) rfl T.g__law_take T.F__law_take.kp T.b__law_take .nil (fun σ => passAt (takes_of rfl rfl rfl rfl) σ) (by exact (pa_cons (pv 0) (pa_cons (pe_op op_pow pe_int pe_int) pa_nil)))))))) pss_nil) (pss_cons (ps_if (pt_cmpR (op_eqK (K := K) rfl hr.units) (pv 2) pe_int (nomark _)) (pss_one (ps_ret (by exact (pe_op op_sub (pe_un un_neg pe_int) (pe_callG (by exact hg) (ok__law_take T) (hr.mono (by first | decide | exact Nat.le_refl _ | omega | (simp only [Nat.add_eq]; omega))) rfl T.g__law_take T.F__law_take.kp T.b__law_take .nil (fun σ => passAt (takes_of rfl rfl rfl rfl) σ) (by exact (pa_cons (pv 0) (pa_cons (pe_op op_pow pe_int pe_int) pa_nil)))))))) pss_nil) (pss_one (ps_ret (by exact (pe_ix (ix_seqK (K := K) rfl) (pe_lst (pa_cons pe_bl (pa_cons pe_bl (pa_cons pe_non (pa_cons pe_str (pa_cons (pe_tup (pa_cons pe_int pa_nil)) (pa_cons pe_str (pa_cons (pv 1) (pa_cons pe_str pa_nil))))))))) (pe_ifExp (pt_cmpR op_lt (pv 2) pe_int (nomark _)) (pe_op op_sub (pv 2) pe_int) pe_int) (fun _ _ => rfl)))))))), ?_⟩
    exact bodyD_ok (ρ := [.A p (hF c cells), .P a_bound, .U]) (J := ⟨Zo K A, fun h => (p, hHO c h) :: L0, fun cls d _ H => E cls d H⟩) (esc := List.replicate 3 .U) (sv_seq (e := fun (v_kind_1 : D) => ([.A p (hF c cells), .P a_bound, .P v_kind_1] : Dm.Env)) (sv_asg (ev_callD (dds := []) hJ rfl (ea_cons ev_int ea_nil)) wkU) (fun v_kind_1 => (sv_ifR (et_test (ev_op o2_eq (Ev.x (ev_var (i := 2) (d := v_kind_1) rfl)) (Ev.x ev_int))) wkU (sv_ret (ev_op o2_add (Ev.x (ev_var (i := 1) (d := a_bound) rfl)) (Ev.x (ev_callD (dds := []) hJ rfl (ea_cons (ev_op o2_pow (Ev.x ev_int) (Ev.x ev_int)) ea_nil)))) wkU) (sv_skip (sv_ifR (et_test (ev_op o2_eq (Ev.x (ev_var (i := 2) (d := v_kind_1) rfl)) (Ev.x ev_int))) wkU (sv_ret (ev_op o2_sub (Ev.x (ev_neg ev_int)) (Ev.x (ev_callD (dds := []) hJ rfl (ea_cons (ev_op o2_pow (Ev.x ev_int) (Ev.x ev_int)) ea_nil)))) wkU) (sv_skip (sv_ret (ev_op o2_ix (Ev.x (ev_new (el_lst (ea_cons ev_bl (ea_cons ev_bl (ea_cons ev_non (ea_cons ev_str (ea_cons (ev_tup (ea_cons ev_int ea_nil)) (ea_cons ev_str (ea_cons (ev_var (i := 1) (d := a_bound) rfl) (ea_cons ev_str ea_nil))))))))))) (Ev.x (ev_ifE (et_test (ev_op o2_lt (Ev.x (ev_var (i := 2) (d := v_kind_1) rfl)) (Ev.x ev_int))) (ev_op o2_sub (Ev.x (ev_var (i := 2) (d := v_kind_1) rfl)) (Ev.x ev_int)) ev_int))) wkU))))))) ⟨cells_hand (n := 1) hf r rfl, by simpa using wd⟩ (fun _ _ _ _ h => h) e
theorem sc__law_rid : FnScope ["_law_hand_here"] ["_law_hand_here"] (defScope s__law_rid) := ⟨rfl, rfl, rfl, by decide +kernel, rfl, by decide +kernel, by decide +kernel⟩
theorem ok__law_rid (T : Tx K mg A) : FnG P w K mg base (L2.CX P w) 3 A.a__law_rid A.d__law_rid ["_law_hand_here"] (spD (Zo K A) m__law_rid) :=
  fnD_okG T.F__law_rid sc__law_rid (fun vs H Q E h => spD_len (fun cs ds h => match ds, h with  | [], h => absurd rfl h | _ :: _, _ => rfl) h) fun cdv A' outer s H vs Q E hg hr h => by
    obtain ⟨p, c, cells, L0, G, s0, vs', ds, rfl, hf, wd, r, e⟩ := h
    have hJ : HandJ (⟨Zo K A, fun h => (p, hHO c h) :: L0, fun cls d _ H => E cls d H⟩ : Jc Hd) p c := ⟨[], L0, fun _ => rfl⟩
    match ds, r, e with
    | _ :: _, _, e => exact e.elim
    | [], r, e =>
    refine ⟨_, (pss_one (ps_ret (by exact (pe_ix (ix_seqK (K := K) rfl) (pe_lst (pa_cons pe_non (pa_cons pe_int (pa_cons pe_str (pa_cons pe_bl (pa_cons (pe_disp (pps_cons pe_int pe_int pps_nil) rfl rfl (by simp) (by decide)) (pa_cons (pe_un un_neg pe_int) pa_nil))))))) (pe_callG (by exact hg) (ok__law_take T) (hr.mono (by first | decide | exact Nat.le_refl _ | omega | (simp only [Nat.add_eq]; omega))) rfl T.g__law_take T.F__law_take.kp T.b__law_take .nil (fun σ => passAt (takes_of rfl rfl rfl rfl) σ) (by exact (pa_cons (pv 0) (pa_cons pe_int pa_nil)))) (fun _ _ => rfl))))), ?_⟩
    exact bodyD_ok (ρ := [.A p (hF c cells)]) (J := ⟨Zo K A, fun h => (p, hHO c h) :: L0, fun cls d _ H => E cls d H⟩) (esc := List.replicate 1 .U) (sv_ret (ev_op o2_ix (Ev.x (ev_new (el_lst (ea_cons ev_non (ea_cons ev_int (ea_cons ev_str (ea_cons ev_bl (ea_cons (ev_dict1 0 1) (ea_cons (ev_neg ev_int) ea_nil))))))))) (Ev.x (ev_callD (dds := []) hJ rfl (ea_cons ev_int ea_nil)))) wkU) ⟨cells_hand (n := 0) hf r rfl, by simpa using wd⟩ (fun _ _ _ _ h => h) e
theorem sc__law_asked : FnScope ["_law_firsts", "_law_sights", "_law_upto", "_law_found", "wrong"] ["_law_firsts", "_law_sights", "_law_upto"] (defScope s__law_asked) := ⟨rfl, rfl, rfl, by decide +kernel, rfl, by decide +kernel, by decide +kernel⟩
theorem ok__law_asked (T : Tx K mg A) : FnG P w K mg base (L2.CX P w) 8 A.a__law_asked A.d__law_asked ["_law_firsts", "_law_sights", "_law_upto"] (spM (Zo K A) m__law_asked) :=
  fnD_okG T.F__law_asked sc__law_asked (fun vs H Q E h => spM_len (fun S ds h => match ds, h with | [], _ => rfl | [_], _ => rfl | [_, _], _ => rfl | [_, _, _], h => absurd rfl h | _ :: _ :: _ :: _ :: _, _ => rfl) h) fun cdv A' outer s H vs Q E hg hr h => by
    obtain ⟨S, lay, G, s0, ds, wd, r, e⟩ := h
    match ds, r, e with
    | [], _, e => exact e.elim
    | [_], _, e => exact e.elim
    | [_, _], _, e => exact e.elim
    | _ :: _ :: _ :: _ :: _, _, e => exact e.elim
    | [a_firsts, a_sights, a_upto], r, e =>
    refine ⟨_, (pss_cons (ps_tryK (K := K) (Wo := fun cls d _ H => E cls d H) rfl rfl rfl sc__law_asked.nd (takes_of rfl rfl rfl rfl) (fun W pn xe tk po => (pss_cons (ps_set (i := 3) sc__law_asked.nd rfl (by first | exact Or.inl rfl | exact Or.inr rfl) (by exact (pe_ifExp (pt_cmpR op_isN (pv 2) pe_non (nomark _)) (pe_callG (by exact hg) (ok_check_sights T) (hr.mono (by first | decide | exact Nat.le_refl _ | omega | (simp only [Nat.add_eq]; omega))) rfl T.g_check_sights T.F_check_sights.kp T.b_check_sights_2.choose_spec.2 T.b_check_sights_2.choose_spec.1 (fun σ => passAt tk σ) (by exact (pa_cons (pv 0) (pa_cons (pv 1) pa_nil)))) (pe_ifExp (pt_cmpR op_gt (pv 2) pe_int (nomark _)) (pe_callG (by exact hg) (ok_check_sights T) (hr.mono (by first | decide | exact Nat.le_refl _ | omega | (simp only [Nat.add_eq]; omega))) rfl T.g_check_sights T.F_check_sights.kp T.b_check_sights .nil (fun σ => passAt tk σ) (by exact (pa_cons (pv 0) (pa_cons (pv 1) (pa_cons (pv 2) pa_nil))))) (pe_callGNs (by exact hg) (ok_check_sights T) (hr.mono (by first | decide | exact Nat.le_refl _ | omega | (simp only [Nat.add_eq]; omega))) rfl T.g_check_sights T.F_check_sights.kp T.kw_check_sights_most.choose_spec (fun σ => passAt tk σ) (by exact (pa_cons (pv 0) (pa_cons (pv 1) pa_nil))) (by exact (pk_cons (pv 2) pk_nil))))))) pss_nil)) (HdsA.cons (n := some "wrong") (i := some 4) ⟨rfl, by decide, Or.inl T.g_BadFirsts⟩ ⟨rfl, rfl⟩ (fun a oe cls d pn hz hf => (pss_one (ps_ret (by exact (pe_lst (pa_cons pe_str (pa_cons (pe_xf T.x_BadFirsts T.h_BadFirsts_index hz hf (pv 4)) pa_nil))))))) (HdsA.cons (n := some "wrong") (i := some 4) ⟨rfl, by decide, Or.inl T.g_BadSight⟩ ⟨rfl, rfl⟩ (fun a oe cls d pn hz hf => (pss_one (ps_ret (by exact (pe_lst (pa_cons pe_str (pa_cons (pe_xf T.x_BadSight T.h_BadSight_index hz hf (pv 4)) (pa_cons (pe_xf T.x_BadSight T.h_BadSight_what hz hf (pv 4)) pa_nil)))))))) (HdsA.cons (n := none) (i := none) ⟨rfl, by decide, Or.inl T.base.1⟩ trivial (fun a oe cls d pn hz hf => (pss_one (ps_ret (by exact (pe_lst (pa_cons pe_str pa_nil)))))) HdsA.nil)))) (pss_one (ps_ret (by exact (pv 3))))), ?_⟩
    exact body_ok (ρ := [.P a_firsts, .P a_sights, .P a_upto, .U, .U]) (J := ⟨Zo K A, lay, fun cls d _ H => E cls d H⟩) (esc := List.replicate 5 .U) (sv_frD (e := fun (s1 : D) => ([.P a_firsts, .P a_sights, .P a_upto, .P s1, .U] : Dm.Env)) (sv_tryB (n := 4) (escB := [.P a_firsts, .P a_sights, .P a_upto, .U, .U]) ta_gone (exZ T) (fun X1 => sv_J (J2 := ⟨Zo K A, lay, X1⟩) rfl (sv_seq (e := fun (v_found_2 : D) => ([.P a_firsts, .P a_sights, .P a_upto, .P v_found_2, .U] : Dm.Env)) (sv_asg (ev_ifE (et_test (ev_op o2_is (Ev.x (ev_var (i := 2) (d := a_upto) rfl)) (Ev.x ev_non))) (ev_call (dds := [.int 3]) (ea_cons (ev_var (i := 0) (d := a_firsts) rfl) (ea_cons (ev_var (i := 1) (d := a_sights) rfl) ea_nil))) (ev_ifE (et_test (ev_op o2_gt (Ev.x (ev_var (i := 2) (d := a_upto) rfl)) (Ev.x ev_int))) (ev_call (dds := []) (ea_cons (ev_var (i := 0) (d := a_firsts) rfl) (ea_cons (ev_var (i := 1) (d := a_sights) rfl) (ea_cons (ev_var (i := 2) (d := a_upto) rfl) ea_nil)))) (ev_callNS (gD := fun ds es => ds ++ es) (ea_cons (ev_var (i := 0) (d := a_firsts) rfl) (ea_cons (ev_var (i := 1) (d := a_sights) rfl) ea_nil)) (ea_cons (ev_var (i := 2) (d := a_upto) rfl) ea_nil) (fun _ _ _ _ _ r1 r2 _ _ => RpAll.append r1 r2)))) (by repeat (first | exact Wk.nil | apply Wk.keep | apply Wk.drop))) (fun v_found_2 => (sv_to (g := fun _ => Fr.nx v_found_2) sv_next (fun _ => (Wk.keep (Wk.keep (Wk.keep (Wk.keep (Wk.keep Wk.nil)))))))))) (HsB.name (c := 2) (i := 4) (fun a dx fs44 => sv_J (J2 := ⟨Zo K A, lay, fun _ _ _ _ => False⟩) rfl (sv_to (g := Fr.rt) (sv_ret (ev_new (el_lst (ea_cons ev_str (ea_cons (ev_xf (f := "index") rfl) ea_nil)))) (by repeat (first | exact Wk.nil | apply Wk.keep | apply Wk.drop))) (fun _ => rfl))) (by intro b; first | rfl | trivial | (cases b <;> first | rfl | trivial)) (HsB.name (c := 3) (i := 4) (fun a dx fs35 => sv_J (J2 := ⟨Zo K A, lay, fun _ _ _ _ => False⟩) rfl (sv_to (g := Fr.rt) (sv_ret (ev_new (el_lst (ea_cons ev_str (ea_cons (ev_xf (f := "index") rfl) (ea_cons (ev_xf (f := "what") rfl) ea_nil))))) (by repeat (first | exact Wk.nil | apply Wk.keep | apply Wk.drop))) (fun _ => rfl))) (by intro b; first | rfl | trivial | (cases b <;> first | rfl | trivial)) HsB.rest)) (List.forall_mem_cons.2 ⟨Nat.le_of_ble_eq_true rfl, (List.forall_mem_cons.2 ⟨Nat.le_of_ble_eq_true rfl, (List.forall_mem_nil _)⟩)⟩) (by repeat (first | exact Wk.nil | apply Wk.keep | apply Wk.drop))) (fun s1 => (sv_ret (ev_var (i := 3) (d := s1) rfl) wkU))) ⟨cells_start (n := 2) r rfl, by simpa using wd⟩ (fun _ _ _ _ h => h) e
theorem sc__law_number : FnScope ["_law_thing", "_law_upto"] ["_law_thing", "_law_upto"] (defScope s__law_number) := ⟨rfl, rfl, rfl, by decide +kernel, rfl, by decide +kernel, by decide +kernel⟩
theorem ok__law_number (T : Tx K mg A) : FnG P w K mg base (L2.CX P w) 1 A.a__law_number A.d__law_number ["_law_thing", "_law_upto"] (spM (Zo K A) m__law_number) :=
  fnD_okG T.F__law_number sc__law_number (fun vs H Q E h => spM_len (fun S ds h => match ds, h with | [], _ => rfl | [_], _ => rfl | [_, _], h => absurd rfl h | _ :: _ :: _ :: _, _ => rfl) h) fun cdv A' outer s H vs Q E hg hr h => by
    obtain ⟨S, lay, G, s0, ds, wd, r, e⟩ := h
    match ds, r, e with
    | [], _, e => exact e.elim
    | [_], _, e => exact e.elim
    | _ :: _ :: _ :: _, _, e => exact e.elim
    | [a_thing, a_upto], r, e =>
    refine ⟨_, (pss_one (ps_ret (by exact (pe_and (pe_callB (call_isiK (K := K) rfl) rfl T.n_isinstance rfl (pa_cons (pv 0) (pa_cons (pe_bltn (v := .ty "int") rfl T.n_int rfl rfl) pa_nil))) (pe_and (pe_not (pe_callB (call_isiK (K := K) rfl) rfl T.n_isinstance rfl (pa_cons (pv 0) (pa_cons (pe_bltn (v := .ty "bool") rfl T.n_bool rfl rfl) pa_nil)))) (pe_one (pe_chain op_le op_le pe_int (pv 0) (pv 1)))))))), ?_⟩
    exact body_ok (ρ := [.P a_thing, .P a_upto]) (J := ⟨Zo K A, lay, fun cls d _ H => E cls d H⟩) (esc := List.replicate 2 .U) (sv_ret (ev_andV (ev_isa .int (Ev.x (ev_var (i := 0) (d := a_thing) rfl))) (ev_andV (ev_notV (ev_isa .bool (Ev.x (ev_var (i := 0) (d := a_thing) rfl)))) (ev_chain o2_le o2_le ev_int (ev_var (i := 0) (d := a_thing) rfl) (ev_var (i := 1) (d := a_upto) rfl)))) wkU) ⟨cells_start (n := 0) r rfl, by simpa using wd⟩ (fun _ _ _ _ h => h) e
theorem sc__law_hues : FnScope ["_law_thing", "_law_many", "_law_colour_here"] ["_law_thing", "_law_many"] (defScope s__law_hues) := ⟨rfl, rfl, rfl, by decide +kernel, rfl, by decide +kernel, by decide +kernel⟩
theorem ok__law_hues (T : Tx K mg A) : FnG P w K mg base (L2.CX P w) 2 A.a__law_hues A.d__law_hues ["_law_thing", "_law_many"] (spM (Zo K A) m__law_hues) :=
  fnD_okG T.F__law_hues sc__law_hues (fun vs H Q E h => spM_len (fun S ds h => match ds, h with | [], _ => rfl | [_], _ => rfl | [_, _], h => absurd rfl h | _ :: _ :: _ :: _, _ => rfl) h) fun cdv A' outer s H vs Q E hg hr h => by
    obtain ⟨S, lay, G, s0, ds, wd, r, e⟩ := h
    match ds, r, e with
    | [], _, e => exact e.elim
    | [_], _, e => exact e.elim
    | _ :: _ :: _ :: _, _, e => exact e.elim
    | [a_thing, a_many], r, e =>
    refine ⟨_, (pss_cons (ps_if (PW.pt (pw_or (pt_not (pt_truK (K := K) rfl (pe_callB (call_isiTK (K := K) rfl) rfl T.n_isinstance rfl (pa_cons (pv 0) (pa_cons (pe_tup (pa_cons (pe_bltn (v := .ty "list") rfl T.n_list rfl rfl) (pa_cons (pe_bltn (v := .ty "tuple") rfl T.n_tuple rfl rfl) pa_nil))) pa_nil))) (fun _ => rfl))) (pw_or1 (pt_cmpR (op_neK (K := K) rfl hr.units) (pe_callB (call_lnK (K := K) rfl) rfl T.n_len rfl (pa_cons (pv 0) pa_nil)) (pv 1) (nomark _))))) (pss_one (ps_ret (by exact pe_bl))) pss_nil) (pss_one (ps_ret (by exact (pe_notTK (K := K) rfl (pe_lc (own := [("_law_colour_here", 2)]) rfl sc__law_hues.nd (pi_sqK (K := K) rfl (pv 0)) (blkOk_by (N := ["_law_thing", "_law_many", "_law_colour_here"]) (sc := defScope s__law_hues) (by decide +kernel)) (fun _ _ _ _ _ => by exact (pg_name (i := 2) sc__law_hues.nd rfl (Or.inl rfl))) (fun _ _ _ _ _ => by exact (pts_one (pt_not (pt_truK (K := K) rfl (pe_callG (by exact hg) (ok__law_number T) (hr.mono (by first | decide | exact Nat.le_refl _ | omega | (simp only [Nat.add_eq]; omega))) rfl T.g__law_number T.F__law_number.kp T.b__law_number .nil (passN (fun _ _ _ _ q => q)) (by exact (pa_cons (pv 2) (pa_cons pe_int pa_nil)))) (fun _ => rfl))))) (fun _ _ _ _ _ => by exact pe_int))))))), ?_⟩
    exact body_ok (ρ := [.P a_thing, .P a_many, .U]) (J := ⟨Zo K A, lay, fun cls d _ H => E cls d H⟩) (esc := List.replicate 3 .U) (sv_ifR (et_or (et_not (et_tru (Ev.x (ev_isas [.list, .tuple] (Ev.x (ev_var (i := 0) (d := a_thing) rfl)))))) (et_test (ev_op o2_ne (Ev.x (ev_b1 o1_len (Ev.x (ev_var (i := 0) (d := a_thing) rfl)))) (Ev.x (ev_var (i := 1) (d := a_many) rfl))))) wkU (sv_ret ev_bl wkU) (sv_skip (sv_ret (ev_notT (Ev.x (ev_new (el_lc (ei_sq (ev_var (i := 0) (d := a_thing) rfl)) (fun _ _ => (tg_name 2)) (fun t11 _ _ => (et_not (et_tru (Ev.x (ev_call (dds := []) (ea_cons (ev_var (i := 2) (d := t11) rfl) (ea_cons ev_int ea_nil))))))) (fun t11 _ _ => ev_int) (hO := (List.forall_mem_cons.2 ⟨rfl, (List.forall_mem_nil _)⟩)))))) wkU))) ⟨cells_start (n := 1) r rfl, by simpa using wd⟩ (fun _ _ _ _ h => h) e
theorem sc__law_pours : FnScope ["_law_thing", "_law_many", "_law_pour"] ["_law_thing", "_law_many"] (defScope s__law_pours) := ⟨rfl, rfl, rfl, by decide +kernel, rfl, by decide +kernel, by decide +kernel⟩
theorem ok__law_pours (T : Tx K mg A) : FnG P w K mg base (L2.CX P w) 2 A.a__law_pours A.d__law_pours ["_law_thing", "_law_many"] (spM (Zo K A) m__law_pours) :=
  fnD_okG T.F__law_pours sc__law_pours (fun vs H Q E h => spM_len (fun S ds h => match ds, h with | [], _ => rfl | [_], _ => rfl | [_, _], h => absurd rfl h | _ :: _ :: _ :: _, _ => rfl) h) fun cdv A' outer s H vs Q E hg hr h => by
    obtain ⟨S, lay, G, s0, ds, wd, r, e⟩ := h
    match ds, r, e with
    | [], _, e => exact e.elim
    | [_], _, e => exact e.elim
    | _ :: _ :: _ :: _, _, e => exact e.elim
    | [a_thing, a_many], r, e =>
    refine ⟨_, (pss_cons (ps_if (PW.pt (pw_or (pt_not (pt_truK (K := K) rfl (pe_callB (call_isiTK (K := K) rfl) rfl T.n_isinstance rfl (pa_cons (pv 0) (pa_cons (pe_tup (pa_cons (pe_bltn (v := .ty "list") rfl T.n_list rfl rfl) (pa_cons (pe_bltn (v := .ty "tuple") rfl T.n_tuple rfl rfl) pa_nil))) pa_nil))) (fun _ => rfl))) (pw_or1 (pt_cmpR op_gt (pe_callB (call_lnK (K := K) rfl) rfl T.n_len rfl (pa_cons (pv 0) pa_nil)) pe_int (nomark _))))) (pss_one (ps_ret (by exact pe_bl))) pss_nil) (pss_cons (ps_for PassesOwn.leaving rfl (pi_sqK (K := K) rfl (pv 0)) (pg_name (i := 2) sc__law_pours.nd rfl (by first | exact Or.inl rfl | exact Or.inr rfl)) (pss_cons (ps_if (PW.pt (pw_or (pt_not (pt_truK (K := K) rfl (pe_callB (call_isiTK (K := K) rfl) rfl T.n_isinstance rfl (pa_cons (pv 2) (pa_cons (pe_tup (pa_cons (pe_bltn (v := .ty "list") rfl T.n_list rfl rfl) (pa_cons (pe_bltn (v := .ty "tuple") rfl T.n_tuple rfl rfl) pa_nil))) pa_nil))) (fun _ => rfl))) (pw_or1 (pt_cmpR (op_neK (K := K) rfl hr.units) (pe_callB (call_lnK (K := K) rfl) rfl T.n_len rfl (pa_cons (pv 2) pa_nil)) pe_int (nomark _))))) (pss_one (ps_ret (by exact pe_bl))) pss_nil) (pss_one (ps_if (PW.pt (pw_or (pt_not (pt_truK (K := K) rfl (pe_callG (by exact hg) (ok__law_number T) (hr.mono (by first | decide | exact Nat.le_refl _ | omega | (simp only [Nat.add_eq]; omega))) rfl T.g__law_number T.F__law_number.kp T.b__law_number .nil (fun σ => passAt (takes_of rfl rfl rfl rfl) σ) (by exact (pa_cons (pe_ix (ix_seqK (K := K) rfl) (pv 2) pe_int (fun _ _ => rfl)) (pa_cons (pe_op op_sub (pv 1) pe_int) pa_nil)))) (fun _ => rfl))) (pw_or1 (pt_not (pt_truK (K := K) rfl (pe_callG (by exact hg) (ok__law_number T) (hr.mono (by first | decide | exact Nat.le_refl _ | omega | (simp only [Nat.add_eq]; omega))) rfl T.g__law_number T.F__law_number.kp T.b__law_number .nil (fun σ => passAt (takes_of rfl rfl rfl rfl) σ) (by exact (pa_cons (pe_ix (ix_seqK (K := K) rfl) (pv 2) pe_int (fun _ _ => rfl)) (pa_cons pe_int pa_nil)))) (fun _ => rfl)))))) (pss_one (ps_ret (by exact pe_bl))) pss_nil)))) (pss_one (ps_ret (by exact pe_bl))))), ?_⟩
    exact body_ok (ρ := [.P a_thing, .P a_many, .U]) (J := ⟨Zo K A, lay, fun cls d _ H => E cls d H⟩) (esc := List.replicate 3 .U) (sv_ifR (et_or (et_not (et_tru (Ev.x (ev_isas [.list, .tuple] (Ev.x (ev_var (i := 0) (d := a_thing) rfl)))))) (et_test (ev_op o2_gt (Ev.x (ev_b1 o1_len (Ev.x (ev_var (i := 0) (d := a_thing) rfl)))) (Ev.x ev_int)))) wkU (sv_ret ev_bl wkU) (sv_skip (sv_frD (e := fun (s11 : Unit) => ([.P a_thing, .P a_many, .U] : Dm.Env)) (sv_wk (Wk.keep (Wk.keep (Wk.keep Wk.nil))) (sv_forF (e := fun (s11 : Unit) => ([.P a_thing, .P a_many, .U] : Dm.Env)) () (ei_sq (ev_var (i := 0) (d := a_thing) rfl)) wkU (tg_name 2) (fun t12 s11 => (sv_ifF (et_or (et_not (et_tru (Ev.x (ev_isas [.list, .tuple] (Ev.x (ev_var (i := 2) (d := t12) rfl)))))) (et_test (ev_op o2_ne (Ev.x (ev_b1 o1_len (Ev.x (ev_var (i := 2) (d := t12) rfl)))) (Ev.x ev_int)))) wkU (sv_to (g := Fx.rt) (sv_ret ev_bl wkU) (fun _ => rfl)) (sv_skip (sv_if (et_or (et_not (et_tru (Ev.x (ev_call (dds := []) (ea_cons (ev_op o2_ix (Ev.x (ev_var (i := 2) (d := t12) rfl)) (Ev.x ev_int)) (ea_cons (ev_op o2_sub (Ev.x (ev_var (i := 1) (d := a_many) rfl)) (Ev.x ev_int)) ea_nil)))))) (et_not (et_tru (Ev.x (ev_call (dds := []) (ea_cons (ev_op o2_ix (Ev.x (ev_var (i := 2) (d := t12) rfl)) (Ev.x ev_int)) (ea_cons ev_int ea_nil))))))) wkU (sv_to (g := Fl.rt) (sv_ret ev_bl wkU) (fun _ => rfl)) (sv_to (g := fun _ => Fl.nx ()) sv_next (fun _ => (Wk.keep (Wk.keep (Wk.drop Wk.nil))))))))))) (fun s11 => (sv_ret ev_bl wkU))))) ⟨cells_start (n := 1) r rfl, by simpa using wd⟩ (fun _ _ _ _ h => h) e
theorem sc__law_due : FnScope ["_law_firsts", "_law_sights", "_law_upto", "_law_at", "_law_sight", "_law_rows", "_law_row"] ["_law_firsts", "_law_sights", "_law_upto"] (defScope s__law_due) := ⟨rfl, rfl, rfl, by decide +kernel, rfl, by decide +kernel, by decide +kernel⟩
theorem ok__law_due (T : Tx K mg A) : FnG P w K mg base (L2.CX P w) 10 A.a__law_due A.d__law_due ["_law_firsts", "_law_sights", "_law_upto"] (spM (Zo K A) m__law_due) :=
  fnD_okG T.F__law_due sc__law_due (fun vs H Q E h => spM_len (fun S ds h => match ds, h with | [], _ => rfl | [_], _ => rfl | [_, _], _ => rfl | [_, _, _], h => absurd rfl h | _ :: _ :: _ :: _ :: _, _ => rfl) h) fun cdv A' outer s H vs Q E hg hr h => by
    obtain ⟨S, lay, G, s0, ds, wd, r, e⟩ := h
    match ds, r, e with
    | [], _, e => exact e.elim
    | [_], _, e => exact e.elim
    | [_, _], _, e => exact e.elim
    | _ :: _ :: _ :: _ :: _, _, e => exact e.elim
    | [a_firsts, a_sights, a_upto], r, e =>
    refine ⟨_, (pss_cons (ps_if (PW.pt (pw_or (pt_not (pt_truK (K := K) rfl (pe_callB (call_isiTK (K := K) rfl) rfl T.n_isinstance rfl (pa_cons (pv 0) (pa_cons (pe_tup (pa_cons (pe_bltn (v := .ty "list") rfl T.n_list rfl rfl) (pa_cons (pe_bltn (v := .ty "tuple") rfl T.n_tuple rfl rfl) pa_nil))) pa_nil))) (fun _ => rfl))) (pw_or1 (pt_not (pt_chain op_le op_le pe_int (pe_callB (call_lnK (K := K) rfl) rfl T.n_len rfl (pa_cons (pv 0) pa_nil)) pe_int))))) (pss_one (ps_ret (by exact (pe_lst (pa_cons pe_str (pa_cons pe_int pa_nil)))))) pss_nil) (pss_cons (ps_for PassesOwn.leaving rfl (pi_range1 rfl T.n_range (pa_cons (pe_callB (call_lnK (K := K) rfl) rfl T.n_len rfl (pa_cons (pv 0) pa_nil)) pa_nil)) (pg_name (i := 3) sc__law_due.nd rfl (by first | exact Or.inl rfl | exact Or.inr rfl)) (pss_one (ps_if (pt_not (pt_truK (K := K) rfl (pe_callG (by exact hg) (ok__law_number T) (hr.mono (by first | decide | exact Nat.le_refl _ | omega | (simp only [Nat.add_eq]; omega))) rfl T.g__law_number T.F__law_number.kp T.b__law_number .nil (fun σ => passAt (takes_of rfl rfl rfl rfl) σ) (by exact (pa_cons (pe_ix (ix_seqK (K := K) rfl) (pv 0) (pv 3) (fun _ _ => rfl)) (pa_cons pe_int pa_nil)))) (fun _ => rfl))) (pss_one (ps_ret (by exact (pe_lst (pa_cons pe_str (pa_cons (pv 3) pa_nil)))))) pss_nil))) (pss_cons (ps_if (PW.pt (pw_or (pt_not (pt_truK (K := K) rfl (pe_callB (call_isiTK (K := K) rfl) rfl T.n_isinstance rfl (pa_cons (pv 1) (pa_cons (pe_tup (pa_cons (pe_bltn (v := .ty "list") rfl T.n_list rfl rfl) (pa_cons (pe_bltn (v := .ty "tuple") rfl T.n_tuple rfl rfl) pa_nil))) pa_nil))) (fun _ => rfl))) (pw_or1 (pt_cmpR op_gt (pe_callB (call_lnK (K := K) rfl) rfl T.n_len rfl (pa_cons (pv 1) pa_nil)) (pv 2) (nomark _))))) (pss_one (ps_ret (by exact (pe_lst (pa_cons pe_str (pa_cons pe_int (pa_cons pe_str pa_nil))))))) pss_nil) (pss_cons (ps_for PassesOwn.leaving rfl (pi_range1 rfl T.n_range (pa_cons (pe_callB (call_lnK (K := K) rfl) rfl T.n_len rfl (pa_cons (pv 1) pa_nil)) pa_nil)) (pg_name (i := 3) sc__law_due.nd rfl (by first | exact Or.inl rfl | exact Or.inr rfl)) (pss_cons (ps_set (i := 4) sc__law_due.nd rfl (by first | exact Or.inl rfl | exact Or.inr rfl) (by exact (pe_ix (ix_seqK (K := K) rfl) (pv 1) (pv 3) (fun _ _ => rfl)))) (pss_cons (ps_if (PW.pt (pw_or (pt_not (pt_truK (K := K) rfl (pe_callB (call_isiTK (K := K) rfl) rfl T.n_isinstance rfl (pa_cons (pv 4) (pa_cons (pe_tup (pa_cons (pe_bltn (v := .ty "list") rfl T.n_list rfl rfl) (pa_cons (pe_bltn (v := .ty "tuple") rfl T.n_tuple rfl rfl) pa_nil))) pa_nil))) (fun _ => rfl))) (pw_or1 (pt_cmpR (op_neK (K := K) rfl hr.units) (pe_callB (call_lnK (K := K) rfl) rfl T.n_len rfl (pa_cons (pv 4) pa_nil)) pe_int (nomark _))))) (pss_one (ps_ret (by exact (pe_lst (pa_cons pe_str (pa_cons (pv 3) (pa_cons pe_str pa_nil))))))) pss_nil) (pss_cons (ps_if (pt_not (pt_truK (K := K) rfl (pe_callG (by exact hg) (ok__law_pours T) (hr.mono (by first | decide | exact Nat.le_refl _ | omega | (simp only [Nat.add_eq]; omega))) rfl T.g__law_pours T.F__law_pours.kp T.b__law_pours .nil (fun σ => passAt (takes_of rfl rfl rfl rfl) σ) (by exact (pa_cons (pe_ix (ix_seqK (K := K) rfl) (pv 4) pe_int (fun _ _ => rfl)) (pa_cons (pe_callB (call_lnK (K := K) rfl) rfl T.n_len rfl (pa_cons (pv 0) pa_nil)) pa_nil)))) (fun _ => rfl))) (pss_one (ps_ret (by exact (pe_lst (pa_cons pe_str (pa_cons (pv 3) (pa_cons pe_str pa_nil))))))) pss_nil) (pss_cons (ps_set (i := 5) sc__law_due.nd rfl (by first | exact Or.inl rfl | exact Or.inr rfl) (by exact (pe_ix (ix_seqK (K := K) rfl) (pv 4) pe_int (fun _ _ => rfl)))) (pss_cons (ps_if (PW.pt (pw_or (pt_not (pt_truK (K := K) rfl (pe_callB (call_isiTK (K := K) rfl) rfl T.n_isinstance rfl (pa_cons (pv 5) (pa_cons (pe_tup (pa_cons (pe_bltn (v := .ty "list") rfl T.n_list rfl rfl) (pa_cons (pe_bltn (v := .ty "tuple") rfl T.n_tuple rfl rfl) pa_nil))) pa_nil))) (fun _ => rfl))) (pw_or1 (pt_cmpR (op_neK (K := K) rfl hr.units) (pe_callB (call_lnK (K := K) rfl) rfl T.n_len rfl (pa_cons (pv 5) pa_nil)) (pe_op (op_addK (K := K) rfl) (pe_callB (call_lnK (K := K) rfl) rfl T.n_len rfl (pa_cons (pe_ix (ix_seqK (K := K) rfl) (pv 4) pe_int (fun _ _ => rfl)) pa_nil)) pe_int) (nomark _))))) (pss_one (ps_ret (by exact (pe_lst (pa_cons pe_str (pa_cons (pv 3) (pa_cons pe_str pa_nil))))))) pss_nil) (pss_cons (ps_if (pt_truK (K := K) rfl (pe_lc (own := [("_law_row", 6)]) rfl sc__law_due.nd (pi_sqK (K := K) rfl (pv 5)) (blkOk_by (N := ["_law_firsts", "_law_sights", "_law_upto", "_law_at", "_law_sight", "_law_rows", "_law_row"]) (sc := defScope s__law_due) (by decide +kernel)) (fun _ _ _ _ _ => by exact (pg_name (i := 6) sc__law_due.nd rfl (Or.inl rfl))) (fun _ _ _ _ _ => by exact (pts_one (pt_not (pt_truK (K := K) rfl (pe_callG (by exact hg) (ok__law_hues T) (hr.mono (by first | decide | exact Nat.le_refl _ | omega | (simp only [Nat.add_eq]; omega))) rfl T.g__law_hues T.F__law_hues.kp T.b__law_hues .nil (passN (fun _ _ _ _ q => q)) (by exact (pa_cons (pv 6) (pa_cons (pe_callB (call_lnK (K := K) rfl) rfl T.n_len rfl (pa_cons (pv 0) pa_nil)) pa_nil)))) (fun _ => rfl))))) (fun _ _ _ _ _ => by exact pe_int)) (fun _ => rfl)) (pss_one (ps_ret (by exact (pe_lst (pa_cons pe_str (pa_cons (pv 3) (pa_cons pe_str pa_nil))))))) pss_nil) (pss_one (ps_if (pt_cmpR (op_neK (K := K) rfl hr.units) (pe_callTy (call_tupK (K := K) rfl) rfl T.n_tuple rfl (pa_cons (pe_ix (ix_seqK (K := K) rfl) (pv 5) pe_int (fun _ _ => rfl)) pa_nil)) (pe_callTy (call_tupK (K := K) rfl) rfl T.n_tuple rfl (pa_cons (pv 0) pa_nil)) (nomark _)) (pss_one (ps_ret (by exact (pe_lst (pa_cons pe_str (pa_cons (pv 3) (pa_cons pe_str pa_nil))))))) pss_nil))))))))) (pss_one (ps_ret (by exact (pe_callG (by exact hg) (ok__law_bare T 8) (hr.mono (by first | decide | exact Nat.le_refl _ | omega | (simp only [Nat.add_eq]; omega))) rfl T.g__law_bare T.F__law_bare.kp T.b__law_bare .nil (fun σ => passAt (takes_of rfl rfl rfl rfl) σ) (by exact (pa_cons (pv 1) pa_nil)))))))))), ?_⟩
    exact body_ok (ρ := [.P a_firsts, .P a_sights, .P a_upto, .U, .U, .U, .U]) (J := ⟨Zo K A, lay, fun cls d _ H => E cls d H⟩) (esc := List.replicate 7 .U) (sv_ifR (et_or (et_not (et_tru (Ev.x (ev_isas [.list, .tuple] (Ev.x (ev_var (i := 0) (d := a_firsts) rfl)))))) (et_not (et_test (ev_chain o2_le o2_le ev_int (ev_b1 o1_len (Ev.x (ev_var (i := 0) (d := a_firsts) rfl))) ev_int)))) wkU (sv_ret (ev_new (el_lst (ea_cons ev_str (ea_cons ev_int ea_nil)))) wkU) (sv_skip (sv_frD (e := fun (s23 : Unit) => ([.P a_firsts, .P a_sights, .P a_upto, .U, .U, .U, .U] : Dm.Env)) (sv_wk (Wk.keep (Wk.keep (Wk.keep (Wk.keep (Wk.keep (Wk.keep (Wk.keep Wk.nil))))))) (sv_forF (e := fun (s23 : Unit) => ([.P a_firsts, .P a_sights, .P a_upto, .U, .U, .U, .U] : Dm.Env)) () (ei_r1 (ea_cons (ev_b1 o1_len (Ev.x (ev_var (i := 0) (d := a_firsts) rfl))) ea_nil)) wkU (tg_name 3) (fun t24 s23 => (sv_if (et_not (et_tru (Ev.x (ev_call (dds := []) (ea_cons (ev_op o2_ix (Ev.x (ev_var (i := 0) (d := a_firsts) rfl)) (Ev.x (ev_var (i := 3) (d := t24) rfl))) (ea_cons ev_int ea_nil)))))) wkU (sv_to (g := Fl.rt) (sv_ret (ev_new (el_lst (ea_cons ev_str (ea_cons (ev_var (i := 3) (d := t24) rfl) ea_nil)))) wkU) (fun _ => rfl)) (sv_to (g := fun _ => Fl.nx ()) sv_next (fun _ => (Wk.keep (Wk.keep (Wk.keep (Wk.drop (Wk.keep (Wk.keep (Wk.keep Wk.nil))))))))))))) (fun s23 => (sv_ifR (et_or (et_not (et_tru (Ev.x (ev_isas [.list, .tuple] (Ev.x (ev_var (i := 1) (d := a_sights) rfl)))))) (et_test (ev_op o2_gt (Ev.x (ev_b1 o1_len (Ev.x (ev_var (i := 1) (d := a_sights) rfl)))) (Ev.x (ev_var (i := 2) (d := a_upto) rfl))))) wkU (sv_ret (ev_new (el_lst (ea_cons ev_str (ea_cons ev_int (ea_cons ev_str ea_nil))))) wkU) (sv_skip (sv_frD (e := fun (s62 : Unit) => ([.P a_firsts, .P a_sights, .P a_upto, .U, .U, .U, .U] : Dm.Env)) (sv_wk (Wk.keep (Wk.keep (Wk.keep (Wk.keep (Wk.keep (Wk.keep (Wk.keep Wk.nil))))))) (sv_forF (e := fun (s62 : Unit) => ([.P a_firsts, .P a_sights, .P a_upto, .U, .U, .U, .U] : Dm.Env)) () (ei_r1 (ea_cons (ev_b1 o1_len (Ev.x (ev_var (i := 1) (d := a_sights) rfl))) ea_nil)) wkU (tg_name 3) (fun t63 s62 => (sv_seq (e := fun (v_sight_64 : D) => ([.P a_firsts, .P a_sights, .P a_upto, .P t63, .P v_sight_64, .U, .U] : Dm.Env)) (sv_asg (ev_op o2_ix (Ev.x (ev_var (i := 1) (d := a_sights) rfl)) (Ev.x (ev_var (i := 3) (d := t63) rfl))) wkU) (fun v_sight_64 => (sv_ifF (et_or (et_not (et_tru (Ev.x (ev_isas [.list, .tuple] (Ev.x (ev_var (i := 4) (d := v_sight_64) rfl)))))) (et_test (ev_op o2_ne (Ev.x (ev_b1 o1_len (Ev.x (ev_var (i := 4) (d := v_sight_64) rfl)))) (Ev.x ev_int)))) wkU (sv_to (g := Fx.rt) (sv_ret (ev_new (el_lst (ea_cons ev_str (ea_cons (ev_var (i := 3) (d := t63) rfl) (ea_cons ev_str ea_nil))))) wkU) (fun _ => rfl)) (sv_skip (sv_ifF (et_not (et_tru (Ev.x (ev_call (dds := []) (ea_cons (ev_op o2_ix (Ev.x (ev_var (i := 4) (d := v_sight_64) rfl)) (Ev.x ev_int)) (ea_cons (ev_b1 o1_len (Ev.x (ev_var (i := 0) (d := a_firsts) rfl))) ea_nil)))))) wkU (sv_to (g := Fx.rt) (sv_ret (ev_new (el_lst (ea_cons ev_str (ea_cons (ev_var (i := 3) (d := t63) rfl) (ea_cons ev_str ea_nil))))) wkU) (fun _ => rfl)) (sv_skip (sv_seq (e := fun (v_rows_103 : D) => ([.P a_firsts, .P a_sights, .P a_upto, .P t63, .P v_sight_64, .P v_rows_103, .U] : Dm.Env)) (sv_asg (ev_op o2_ix (Ev.x (ev_var (i := 4) (d := v_sight_64) rfl)) (Ev.x ev_int)) wkU) (fun v_rows_103 => (sv_ifF (et_or (et_not (et_tru (Ev.x (ev_isas [.list, .tuple] (Ev.x (ev_var (i := 5) (d := v_rows_103) rfl)))))) (et_test (ev_op o2_ne (Ev.x (ev_b1 o1_len (Ev.x (ev_var (i := 5) (d := v_rows_103) rfl)))) (Ev.x (ev_op o2_add (Ev.x (ev_b1 o1_len (Ev.x (ev_op o2_ix (Ev.x (ev_var (i := 4) (d := v_sight_64) rfl)) (Ev.x ev_int))))) (Ev.x ev_int)))))) wkU (sv_to (g := Fx.rt) (sv_ret (ev_new (el_lst (ea_cons ev_str (ea_cons (ev_var (i := 3) (d := t63) rfl) (ea_cons ev_str ea_nil))))) wkU) (fun _ => rfl)) (sv_skip (sv_ifF (et_tru (Ev.x (ev_new (el_lc (ei_sq (ev_var (i := 5) (d := v_rows_103) rfl)) (fun _ _ => (tg_name 6)) (fun t129 _ _ => (et_not (et_tru (Ev.x (ev_call (dds := []) (ea_cons (ev_var (i := 6) (d := t129) rfl) (ea_cons (ev_b1 o1_len (Ev.x (ev_var (i := 0) (d := a_firsts) rfl))) ea_nil))))))) (fun t129 _ _ => ev_int) (hO := (List.forall_mem_cons.2 ⟨rfl, (List.forall_mem_nil _)⟩)))))) wkU (sv_to (g := Fx.rt) (sv_ret (ev_new (el_lst (ea_cons ev_str (ea_cons (ev_var (i := 3) (d := t63) rfl) (ea_cons ev_str ea_nil))))) wkU) (fun _ => rfl)) (sv_skip (sv_if (et_test (ev_op o2_ne (Ev.x (ev_b1 o1_tuple (Ev.x (ev_op o2_ix (Ev.x (ev_var (i := 5) (d := v_rows_103) rfl)) (Ev.x ev_int))))) (Ev.x (ev_b1 o1_tuple (Ev.x (ev_var (i := 0) (d := a_firsts) rfl)))))) wkU (sv_to (g := Fl.rt) (sv_ret (ev_new (el_lst (ea_cons ev_str (ea_cons (ev_var (i := 3) (d := t63) rfl) (ea_cons ev_str ea_nil))))) wkU) (fun _ => rfl)) (sv_to (g := fun _ => Fl.nx ()) sv_next (fun _ => (Wk.keep (Wk.keep (Wk.keep (Wk.drop (Wk.drop (Wk.drop (Wk.keep Wk.nil))))))))))))))))))))))))) (fun s62 => (sv_ret (ev_call (dds := []) (ea_cons (ev_var (i := 1) (d := a_sights) rfl) ea_nil)) wkU))))))))) ⟨cells_start (n := 4) r rfl, by simpa using wd⟩ (fun _ _ _ _ h => h) e
theorem sc__law_cracked : FnScope ["_law_hand_here", "_law_script", "_law_many", "_law_kind", "_law_out", "_law_at", "_law_pour", "_law_turn"] ["_law_hand_here", "_law_script", "_law_many"] (defScope s__law_cracked) := ⟨rfl, rfl, rfl, by decide +kernel, rfl, by decide +kernel, by decide +kernel⟩
theorem ok__law_cracked (T : Tx K mg A) : FnG P w K mg base (L2.CX P w) 4 A.a__law_cracked A.d__law_cracked ["_law_hand_here", "_law_script", "_law_many"] (spD (Zo K A) m__law_cracked) :=
  fnD_okG T.F__law_cracked sc__law_cracked (fun vs H Q E h => spD_len (fun cs ds h => match ds, h with | [], _ => rfl | [_], _ => rfl | [_, _], h => absurd rfl h | _ :: _ :: _ :: _, _ => rfl) h) fun cdv A' outer s H vs Q E hg hr h => by
    obtain ⟨p, c, cells, L0, G, s0, vs', ds, rfl, hf, wd, r, e⟩ := h
    have hJ : HandJ (⟨Zo K A, fun h => (p, hHO c h) :: L0, fun cls d _ H => E cls d H⟩ : Jc Hd) p c := ⟨[], L0, fun _ => rfl⟩
    match ds, r, e with
    | [], _, e => exact e.elim
    | [_], _, e => exact e.elim
    | _ :: _ :: _ :: _, _, e => exact e.elim
    | [a_script, a_many], r, e =>
    refine ⟨_, (pss_cons (ps_set (i := 3) sc__law_cracked.nd rfl (by first | exact Or.inl rfl | exact Or.inr rfl) (by exact (pe_callG (by exact hg) (ok__law_take T) (hr.mono (by first | decide | exact Nat.le_refl _ | omega | (simp only [Nat.add_eq]; omega))) rfl T.g__law_take T.F__law_take.kp T.b__law_take .nil (fun σ => passAt (takes_of rfl rfl rfl rfl) σ) (by exact (pa_cons (pv 0) (pa_cons pe_int pa_nil)))))) (pss_cons (ps_setLc (i := 4) (own := [("_law_pour", 6)]) rfl sc__law_cracked.nd rfl rfl (sw_true rfl rfl rfl (by decide +kernel)) (pi_sqK (K := K) rfl (pv 1)) (blkOk_by (N := ["_law_hand_here", "_law_script", "_law_many", "_law_kind", "_law_out", "_law_at", "_law_pour", "_law_turn"]) (sc := defScope s__law_cracked) (by decide +kernel)) (fun _ _ _ _ _ => by exact (pg_name (i := 6) sc__law_cracked.nd rfl (Or.inl rfl))) (fun _ _ _ _ _ => by exact pts_nil) (fun _ _ _ _ _ => by exact (pe_callTy (call_lstK (K := K) rfl) rfl T.n_list rfl (pa_cons (pv 6) pa_nil)))) (pss_cons (ps_if (pt_cmpR (op_eqK (K := K) rfl hr.units) (pv 3) pe_int (nomark _)) (pss_one (ps_ret (by exact (pe_callG (by exact hg) (ok__law_rid T) (hr.mono (by first | decide | exact Nat.le_refl _ | omega | (simp only [Nat.add_eq]; omega))) rfl T.g__law_rid T.F__law_rid.kp T.b__law_rid .nil (fun σ => passAt (takes_of rfl rfl rfl rfl) σ) (by exact (pa_cons (pv 0) pa_nil)))))) pss_nil) (pss_cons (ps_if (PW.pt (pw_or (pt_cmpR (op_eqK (K := K) rfl hr.units) (pv 3) pe_int (nomark _)) (pw_or1 (pt_not (pt_truK (K := K) rfl (pv 4) (fun _ => rfl)))))) (pss_one (ps_ret (by exact (pe_op (op_addK (K := K) rfl) (pv 4) (pe_lc (own := [("_law_turn", 7)]) rfl sc__law_cracked.nd (pi_range1 rfl T.n_range (pa_cons (pe_op op_sub pe_int (pe_callB (call_lnK (K := K) rfl) rfl T.n_len rfl (pa_cons (pv 4) pa_nil))) pa_nil)) (blkOk_by (N := ["_law_hand_here", "_law_script", "_law_many", "_law_kind", "_law_out", "_law_at", "_law_pour", "_law_turn"]) (sc := defScope s__law_cracked) (by decide +kernel)) (fun _ _ _ _ _ => by exact (pg_name (i := 7) sc__law_cracked.nd rfl (Or.inl rfl))) (fun _ _ _ _ _ => by exact pts_nil) (fun _ _ _ _ _ => by exact (pe_lst (pa_cons pe_int (pa_cons pe_int pa_nil))))))))) pss_nil) (pss_cons (ps_set (i := 5) sc__law_cracked.nd rfl (by first | exact Or.inl rfl | exact Or.inr rfl) (by exact (pe_callG (by exact hg) (ok__law_take T) (hr.mono (by first | decide | exact Nat.le_refl _ | omega | (simp only [Nat.add_eq]; omega))) rfl T.g__law_take T.F__law_take.kp T.b__law_take .nil (fun σ => passAt (takes_of rfl rfl rfl rfl) σ) (by exact (pa_cons (pv 0) (pa_cons (pe_callB (call_lnK (K := K) rfl) rfl T.n_len rfl (pa_cons (pv 4) pa_nil)) pa_nil)))))) (pss_cons (ps_if (pt_cmpR (op_eqK (K := K) rfl hr.units) (pv 3) pe_int (nomark _)) (pss_cons (ps_asg (pe_callG (by exact hg) (ok__law_odd T) (hr.mono (by first | decide | exact Nat.le_refl _ | omega | (simp only [Nat.add_eq]; omega))) rfl T.g__law_odd T.F__law_odd.kp T.b__law_odd .nil (fun σ => passAt (takes_of rfl rfl rfl rfl) σ) (by exact (pa_cons (pv 0) (pa_cons (pv 2) pa_nil)))) (pg_sub (pe_ix (ix_seqK (K := K) rfl) (pv 4) (pv 5) (fun _ _ => rfl)) pe_int set_list)) pss_nil) (pss_one (ps_if (pt_cmpR (op_eqK (K := K) rfl hr.units) (pv 3) pe_int (nomark _)) (pss_cons (ps_asg (pe_callG (by exact hg) (ok__law_odd T) (hr.mono (by first | decide | exact Nat.le_refl _ | omega | (simp only [Nat.add_eq]; omega))) rfl T.g__law_odd T.F__law_odd.kp T.b__law_odd .nil (fun σ => passAt (takes_of rfl rfl rfl rfl) σ) (by exact (pa_cons (pv 0) (pa_cons pe_int pa_nil)))) (pg_sub (pe_ix (ix_seqK (K := K) rfl) (pv 4) (pv 5) (fun _ _ => rfl)) pe_int set_list)) pss_nil) (pss_cons (ps_asg (pe_ix (ix_seqK (K := K) rfl) (pe_lst (pa_cons (pe_callG (by exact hg) (ok__law_rid T) (hr.mono (by first | decide | exact Nat.le_refl _ | omega | (simp only [Nat.add_eq]; omega))) rfl T.g__law_rid T.F__law_rid.kp T.b__law_rid .nil (fun σ => passAt (takes_of rfl rfl rfl rfl) σ) (by exact (pa_cons (pv 0) pa_nil))) (pa_cons (pe_lst (pa_cons (pe_ix (ix_seqK (K := K) rfl) (pe_ix (ix_seqK (K := K) rfl) (pv 4) (pv 5) (fun _ _ => rfl)) pe_int (fun _ _ => rfl)) pa_nil)) (pa_cons (pe_op (op_addK (K := K) rfl) (pe_ix (ix_seqK (K := K) rfl) (pv 4) (pv 5) (fun _ _ => rfl)) (pe_lst (pa_cons pe_int pa_nil))) pa_nil)))) (pe_callG (by exact hg) (ok__law_take T) (hr.mono (by first | decide | exact Nat.le_refl _ | omega | (simp only [Nat.add_eq]; omega))) rfl T.g__law_take T.F__law_take.kp T.b__law_take .nil (fun σ => passAt (takes_of rfl rfl rfl rfl) σ) (by exact (pa_cons (pv 0) (pa_cons pe_int pa_nil)))) (fun _ _ => rfl)) (pg_sub (pv 4) (pv 5) set_list)) pss_nil)))) (pss_one (ps_ret (by exact (pv 4)))))))))), ?_⟩
    exact bodyD_ok (ρ := [.A p (hF c cells), .P a_script, .P a_many, .U, .U, .U, .U, .U]) (J := ⟨Zo K A, fun h => (p, hHO c h) :: L0, fun cls d _ H => E cls d H⟩) (esc := List.replicate 8 .U) (sv_seq (e := fun (v_kind_1 : D) => ([.A p (hF c cells), .P a_script, .P a_many, .P v_kind_1, .U, .U, .U, .U] : Dm.Env)) (sv_asg (ev_callD (dds := []) hJ rfl (ea_cons ev_int ea_nil)) wkU) (fun v_kind_1 => (sv_seq (e := fun (v_out_5 : List (List D)) => ([.A p (hF c cells), .P a_script, .P a_many, .P v_kind_1, .Q v_out_5, .U, .U, .U] : Dm.Env)) (sv_asgQ (eq_lc (ei_sq (ev_var (i := 1) (d := a_script) rfl)) (fun _ => (tg_name 6)) (fun t7 _ => (el_list (Ev.x (ev_var (i := 6) (d := t7) rfl)))) (hO := (List.forall_mem_cons.2 ⟨rfl, (List.forall_mem_nil _)⟩))) wkU (hi := Nat.le_of_ble_eq_true rfl)) (fun v_out_5 => (sv_ifR (et_test (ev_op o2_eq (Ev.x (ev_var (i := 3) (d := v_kind_1) rfl)) (Ev.x ev_int))) wkU (sv_ret (ev_callD (dds := []) hJ rfl ea_nil) wkU) (sv_skip (sv_ifR (et_or (et_test (ev_op o2_eq (Ev.x (ev_var (i := 3) (d := v_kind_1) rfl)) (Ev.x ev_int))) (et_not (et_truQ (i := 4) (dss := v_out_5) rfl))) wkU (sv_frzQ (i := 4) (dss := v_out_5) rfl <| (sv_ret (ev_op o2_add (ex_own (i := 4) (ds := (v_out_5.map D.lst)) rfl) (Ev.x (ev_new (el_lc (ei_r1 (ea_cons (ev_op o2_sub (Ev.x ev_int) (Ev.x (ev_b1 o1_len (ex_own (i := 4) (ds := (v_out_5.map D.lst)) rfl)))) ea_nil)) (fun _ _ => (tg_name 7)) (fun t28 _ _ => et_yes) (fun t28 _ _ => (ev_new (el_lst (ea_cons ev_int (ea_cons ev_int ea_nil))))) (hO := (List.forall_mem_cons.2 ⟨rfl, (List.forall_mem_nil _)⟩)))))) wkU)) (sv_skip (sv_seq (e := fun (v_at_40 : D) => ([.A p (hF c cells), .P a_script, .P a_many, .P v_kind_1, .Q v_out_5, .P v_at_40, .U, .U] : Dm.Env)) (sv_asg (ev_callD (dds := []) hJ rfl (ea_cons (ev_lenQ (i := 4) (dss := v_out_5) rfl) ea_nil)) wkU) (fun v_at_40 => (sv_seq (e := fun (s48 : List D) => ([.A p (hF c cells), .P a_script, .P a_many, .P v_kind_1, .O s48, .P v_at_40, .U, .U] : Dm.Env)) (sv_if (et_test (ev_op o2_eq (Ev.x (ev_var (i := 3) (d := v_kind_1) rfl)) (Ev.x ev_int))) wkU (sv_seq (e := fun (qs56 : List (List D)) => ([.A p (hF c cells), .P a_script, .P a_many, .P v_kind_1, .Q qs56, .P v_at_40, .U, .U] : Dm.Env)) (sv_setQ (i := 4) rfl (ev_callD (dds := []) hJ rfl (ea_cons (ev_var (i := 2) (d := a_many) rfl) ea_nil)) (ev_var (i := 5) (d := v_at_40) rfl) ev_int wkU) (fun qs56 => (sv_frzQ (i := 4) (dss := qs56) rfl <| (sv_to (g := fun _ => (qs56.map D.lst)) sv_next (fun _ => (Wk.keep (Wk.keep (Wk.keep (Wk.keep (Wk.keep (Wk.keep (Wk.keep (Wk.keep Wk.nil))))))))))))) (sv_if (et_test (ev_op o2_eq (Ev.x (ev_var (i := 3) (d := v_kind_1) rfl)) (Ev.x ev_int))) wkU (sv_seq (e := fun (qs68 : List (List D)) => ([.A p (hF c cells), .P a_script, .P a_many, .P v_kind_1, .Q qs68, .P v_at_40, .U, .U] : Dm.Env)) (sv_setQ (i := 4) rfl (ev_callD (dds := []) hJ rfl (ea_cons ev_int ea_nil)) (ev_var (i := 5) (d := v_at_40) rfl) ev_int wkU) (fun qs68 => (sv_frzQ (i := 4) (dss := qs68) rfl <| (sv_to (g := fun _ => (qs68.map D.lst)) sv_next (fun _ => (Wk.keep (Wk.keep (Wk.keep (Wk.keep (Wk.keep (Wk.keep (Wk.keep (Wk.keep Wk.nil))))))))))))) (sv_frzQ (i := 4) (dss := v_out_5) rfl <| (sv_seq (e := fun (es101 : List D) => ([.A p (hF c cells), .P a_script, .P a_many, .P v_kind_1, .O es101, .P v_at_40, .U, .U] : Dm.Env)) (sv_setI (i := 4) rfl (ev_op o2_ix (Ev.x (ev_new (el_lst (ea_cons (ev_callD (dds := []) hJ rfl ea_nil) (ea_cons (ev_new (el_lst (ea_cons (ev_op o2_ix (Ev.x (ev_op o2_ix (ex_own (i := 4) (ds := (v_out_5.map D.lst)) rfl) (Ev.x (ev_var (i := 5) (d := v_at_40) rfl)))) (Ev.x ev_int)) ea_nil))) (ea_cons (ev_op o2_add (Ev.x (ev_op o2_ix (ex_own (i := 4) (ds := (v_out_5.map D.lst)) rfl) (Ev.x (ev_var (i := 5) (d := v_at_40) rfl)))) (Ev.x (ev_new (el_lst (ea_cons ev_int ea_nil))))) ea_nil)))))) (Ev.x (ev_callD (dds := []) hJ rfl (ea_cons ev_int ea_nil)))) (ev_var (i := 5) (d := v_at_40) rfl) wkU) (fun es101 => (sv_to (g := fun _ => es101) sv_next (fun _ => (Wk.keep (Wk.keep (Wk.keep (Wk.keep (Wk.keep (Wk.keep (Wk.keep (Wk.keep Wk.nil))))))))))))))) (fun s48 => (sv_frz (i := 4) (ds := s48) rfl <| (sv_ret (ev_var (i := 4) (d := (.lst s48)) rfl) wkU)))))))))))))) ⟨cells_hand (n := 5) hf r rfl, by simpa using wd⟩ (fun _ _ _ _ h => h) e
theorem sc__law_torn : FnScope ["_law_hand_here", "_law_rows", "_law_kind", "_law_out", "_law_at", "_law_row"] ["_law_hand_here", "_law_rows"] (defScope s__law_torn) := ⟨rfl, rfl, rfl, by decide +kernel, rfl, by decide +kernel, by decide +kernel⟩
theorem ok__law_torn (T : Tx K mg A) : FnG P w K mg base (L2.CX P w) 4 A.a__law_torn A.d__law_torn ["_law_hand_here", "_law_rows"] (spD (Zo K A) m__law_torn) :=
  fnD_okG T.F__law_torn sc__law_torn (fun vs H Q E h => spD_len (fun cs ds h => match ds, h with | [], _ => rfl | [_], h => absurd rfl h | _ :: _ :: _, _ => rfl) h) fun cdv A' outer s H vs Q E hg hr h => by
    obtain ⟨p, c, cells, L0, G, s0, vs', ds, rfl, hf, wd, r, e⟩ := h
    have hJ : HandJ (⟨Zo K A, fun h => (p, hHO c h) :: L0, fun cls d _ H => E cls d H⟩ : Jc Hd) p c := ⟨[], L0, fun _ => rfl⟩
    match ds, r, e with
    | [], _, e => exact e.elim
    | _ :: _ :: _, _, e => exact e.elim
    | [a_rows], r, e =>
    refine ⟨_, (pss_cons (ps_set (i := 2) sc__law_torn.nd rfl (by first | exact Or.inl rfl | exact Or.inr rfl) (by exact (pe_callG (by exact hg) (ok__law_take T) (hr.mono (by first | decide | exact Nat.le_refl _ | omega | (simp only [Nat.add_eq]; omega))) rfl T.g__law_take T.F__law_take.kp T.b__law_take .nil (fun σ => passAt (takes_of rfl rfl rfl rfl) σ) (by exact (pa_cons (pv 0) (pa_cons pe_int pa_nil)))))) (pss_cons (ps_setLc (i := 3) (own := [("_law_row", 5)]) rfl sc__law_torn.nd rfl rfl (sw_true rfl rfl rfl (by decide +kernel)) (pi_sqK (K := K) rfl (pv 1)) (blkOk_by (N := ["_law_hand_here", "_law_rows", "_law_kind", "_law_out", "_law_at", "_law_row"]) (sc := defScope s__law_torn) (by decide +kernel)) (fun _ _ _ _ _ => by exact (pg_name (i := 5) sc__law_torn.nd rfl (Or.inl rfl))) (fun _ _ _ _ _ => by exact pts_nil) (fun _ _ _ _ _ => by exact (pe_callTy (call_lstK (K := K) rfl) rfl T.n_list rfl (pa_cons (pv 5) pa_nil)))) (pss_cons (ps_set (i := 4) sc__law_torn.nd rfl (by first | exact Or.inl rfl | exact Or.inr rfl) (by exact (pe_callG (by exact hg) (ok__law_take T) (hr.mono (by first | decide | exact Nat.le_refl _ | omega | (simp only [Nat.add_eq]; omega))) rfl T.g__law_take T.F__law_take.kp T.b__law_take .nil (fun σ => passAt (takes_of rfl rfl rfl rfl) σ) (by exact (pa_cons (pv 0) (pa_cons (pe_callB (call_lnK (K := K) rfl) rfl T.n_len rfl (pa_cons (pv 3) pa_nil)) pa_nil)))))) (pss_cons (ps_if (pt_cmpR (op_eqK (K := K) rfl hr.units) (pv 2) pe_int (nomark _)) (pss_one (ps_ret (by exact (pe_callG (by exact hg) (ok__law_rid T) (hr.mono (by first | decide | exact Nat.le_refl _ | omega | (simp only [Nat.add_eq]; omega))) rfl T.g__law_rid T.F__law_rid.kp T.b__law_rid .nil (fun σ => passAt (takes_of rfl rfl rfl rfl) σ) (by exact (pa_cons (pv 0) pa_nil)))))) pss_nil) (pss_cons (ps_if (pt_cmpR (op_eqK (K := K) rfl hr.units) (pv 2) pe_int (nomark _)) (pss_one (ps_ret (by exact (pe_slice (sl_anyK (K := K) rfl) (pv 3) po_none (po_some (pe_op op_sub (pe_callB (call_lnK (K := K) rfl) rfl T.n_len rfl (pa_cons (pv 3) pa_nil)) pe_int)))))) pss_nil) (pss_cons (ps_if (pt_cmpR (op_eqK (K := K) rfl hr.units) (pv 2) pe_int (nomark _)) (pss_one (ps_ret (by exact (pe_op (op_addK (K := K) rfl) (pv 3) (pe_lst (pa_cons (pe_ix (ix_seqK (K := K) rfl) (pv 3) (pv 4) (fun _ _ => rfl)) pa_nil)))))) pss_nil) (pss_cons (ps_if (pt_cmpR (op_eqK (K := K) rfl hr.units) (pv 2) pe_int (nomark _)) (pss_cons (ps_asg (pe_callG (by exact hg) (ok__law_rid T) (hr.mono (by first | decide | exact Nat.le_refl _ | omega | (simp only [Nat.add_eq]; omega))) rfl T.g__law_rid T.F__law_rid.kp T.b__law_rid .nil (fun σ => passAt (takes_of rfl rfl rfl rfl) σ) (by exact (pa_cons (pv 0) pa_nil))) (pg_sub (pv 3) (pv 4) set_list)) pss_nil) (pss_one (ps_if (pt_cmpR (op_eqK (K := K) rfl hr.units) (pv 2) pe_int (nomark _)) (pss_cons (ps_asg (pe_ifExp (pt_truK (K := K) rfl (pe_callG (by exact hg) (ok__law_take T) (hr.mono (by first | decide | exact Nat.le_refl _ | omega | (simp only [Nat.add_eq]; omega))) rfl T.g__law_take T.F__law_take.kp T.b__law_take .nil (fun σ => passAt (takes_of rfl rfl rfl rfl) σ) (by exact (pa_cons (pv 0) (pa_cons pe_int pa_nil)))) (fun _ => rfl)) (pe_op (op_addK (K := K) rfl) (pe_ix (ix_seqK (K := K) rfl) (pv 3) (pv 4) (fun _ _ => rfl)) (pe_lst (pa_cons pe_int pa_nil))) (pe_slice (sl_anyK (K := K) rfl) (pe_ix (ix_seqK (K := K) rfl) (pv 3) (pv 4) (fun _ _ => rfl)) (po_some pe_int) po_none)) (pg_sub (pv 3) (pv 4) set_list)) pss_nil) (pss_cons (ps_asg (pe_callG (by exact hg) (ok__law_odd T) (hr.mono (by first | decide | exact Nat.le_refl _ | omega | (simp only [Nat.add_eq]; omega))) rfl T.g__law_odd T.F__law_odd.kp T.b__law_odd .nil (fun σ => passAt (takes_of rfl rfl rfl rfl) σ) (by exact (pa_cons (pv 0) (pa_cons pe_int pa_nil)))) (pg_sub (pe_ix (ix_seqK (K := K) rfl) (pv 3) (pv 4) (fun _ _ => rfl)) (pe_callG (by exact hg) (ok__law_take T) (hr.mono (by first | decide | exact Nat.le_refl _ | omega | (simp only [Nat.add_eq]; omega))) rfl T.g__law_take T.F__law_take.kp T.b__law_take .nil (fun σ => passAt (takes_of rfl rfl rfl rfl) σ) (by exact (pa_cons (pv 0) (pa_cons (pe_callB (call_lnK (K := K) rfl) rfl T.n_len rfl (pa_cons (pe_ix (ix_seqK (K := K) rfl) (pv 3) (pv 4) (fun _ _ => rfl)) pa_nil)) pa_nil)))) set_list)) pss_nil)))) (pss_one (ps_ret (by exact (pv 3))))))))))), ?_⟩
    exact bodyD_ok (ρ := [.A p (hF c cells), .P a_rows, .U, .U, .U, .U]) (J := ⟨Zo K A, fun h => (p, hHO c h) :: L0, fun cls d _ H => E cls d H⟩) (esc := List.replicate 6 .U) (sv_seq (e := fun (v_kind_1 : D) => ([.A p (hF c cells), .P a_rows, .P v_kind_1, .U, .U, .U] : Dm.Env)) (sv_asg (ev_callD (dds := []) hJ rfl (ea_cons ev_int ea_nil)) wkU) (fun v_kind_1 => (sv_seq (e := fun (v_out_5 : List (List D)) => ([.A p (hF c cells), .P a_rows, .P v_kind_1, .Q v_out_5, .U, .U] : Dm.Env)) (sv_asgQ (eq_lc (ei_sq (ev_var (i := 1) (d := a_rows) rfl)) (fun _ => (tg_name 5)) (fun t7 _ => (el_list (Ev.x (ev_var (i := 5) (d := t7) rfl)))) (hO := (List.forall_mem_cons.2 ⟨rfl, (List.forall_mem_nil _)⟩))) wkU (hi := Nat.le_of_ble_eq_true rfl)) (fun v_out_5 => (sv_seq (e := fun (v_at_11 : D) => ([.A p (hF c cells), .P a_rows, .P v_kind_1, .Q v_out_5, .P v_at_11, .U] : Dm.Env)) (sv_asg (ev_callD (dds := []) hJ rfl (ea_cons (ev_lenQ (i := 3) (dss := v_out_5) rfl) ea_nil)) wkU) (fun v_at_11 => (sv_ifR (et_test (ev_op o2_eq (Ev.x (ev_var (i := 2) (d := v_kind_1) rfl)) (Ev.x ev_int))) wkU (sv_ret (ev_callD (dds := []) hJ rfl ea_nil) wkU) (sv_skip (sv_ifR (et_test (ev_op o2_eq (Ev.x (ev_var (i := 2) (d := v_kind_1) rfl)) (Ev.x ev_int))) wkU (sv_frzQ (i := 3) (dss := v_out_5) rfl <| (sv_ret (ev_sl (ex_own (i := 3) (ds := (v_out_5.map D.lst)) rfl) eo_none (eo_some (ev_op o2_sub (Ev.x (ev_b1 o1_len (ex_own (i := 3) (ds := (v_out_5.map D.lst)) rfl))) (Ev.x ev_int)))) wkU)) (sv_skip (sv_ifR (et_test (ev_op o2_eq (Ev.x (ev_var (i := 2) (d := v_kind_1) rfl)) (Ev.x ev_int))) wkU (sv_frzQ (i := 3) (dss := v_out_5) rfl <| (sv_ret (ev_op o2_add (ex_own (i := 3) (ds := (v_out_5.map D.lst)) rfl) (Ev.x (ev_new (el_lst (ea_cons (ev_op o2_ix (ex_own (i := 3) (ds := (v_out_5.map D.lst)) rfl) (Ev.x (ev_var (i := 4) (d := v_at_11) rfl))) ea_nil))))) wkU)) (sv_skip (sv_seq (e := fun (s47 : List D) => ([.A p (hF c cells), .P a_rows, .P v_kind_1, .O s47, .P v_at_11, .U] : Dm.Env)) (sv_if (et_test (ev_op o2_eq (Ev.x (ev_var (i := 2) (d := v_kind_1) rfl)) (Ev.x ev_int))) wkU (sv_frzQ (i := 3) (dss := v_out_5) rfl <| (sv_seq (e := fun (es51 : List D) => ([.A p (hF c cells), .P a_rows, .P v_kind_1, .O es51, .P v_at_11, .U] : Dm.Env)) (sv_setI (i := 3) rfl (ev_callD (dds := []) hJ rfl ea_nil) (ev_var (i := 4) (d := v_at_11) rfl) wkU) (fun es51 => (sv_to (g := fun _ => es51) sv_next (fun _ => (Wk.keep (Wk.keep (Wk.keep (Wk.keep (Wk.keep (Wk.keep Wk.nil))))))))))) (sv_if (et_test (ev_op o2_eq (Ev.x (ev_var (i := 2) (d := v_kind_1) rfl)) (Ev.x ev_int))) wkU (sv_frzQ (i := 3) (dss := v_out_5) rfl <| (sv_seq (e := fun (es77 : List D) => ([.A p (hF c cells), .P a_rows, .P v_kind_1, .O es77, .P v_at_11, .U] : Dm.Env)) (sv_setI (i := 3) rfl (ev_ifE (et_tru (Ev.x (ev_callD (dds := []) hJ rfl (ea_cons ev_int ea_nil)))) (ev_op o2_add (Ev.x (ev_op o2_ix (ex_own (i := 3) (ds := (v_out_5.map D.lst)) rfl) (Ev.x (ev_var (i := 4) (d := v_at_11) rfl)))) (Ev.x (ev_new (el_lst (ea_cons ev_int ea_nil))))) (ev_sl (Ev.x (ev_op o2_ix (ex_own (i := 3) (ds := (v_out_5.map D.lst)) rfl) (Ev.x (ev_var (i := 4) (d := v_at_11) rfl)))) (eo_some ev_int) eo_none)) (ev_var (i := 4) (d := v_at_11) rfl) wkU) (fun es77 => (sv_to (g := fun _ => es77) sv_next (fun _ => (Wk.keep (Wk.keep (Wk.keep (Wk.keep (Wk.keep (Wk.keep Wk.nil))))))))))) (sv_seq (e := fun (qs90 : List (List D)) => ([.A p (hF c cells), .P a_rows, .P v_kind_1, .Q qs90, .P v_at_11, .U] : Dm.Env)) (sv_setQ (i := 3) rfl (ev_callD (dds := []) hJ rfl (ea_cons ev_int ea_nil)) (ev_var (i := 4) (d := v_at_11) rfl) (ev_callD (dds := []) hJ rfl (ea_cons (ev_lenQ2 (i := 3) (dss := v_out_5) rfl (ev_var (i := 4) (d := v_at_11) rfl)) ea_nil)) wkU) (fun qs90 => (sv_frzQ (i := 3) (dss := qs90) rfl <| (sv_to (g := fun _ => (qs90.map D.lst)) sv_next (fun _ => (Wk.keep (Wk.keep (Wk.keep (Wk.keep (Wk.keep (Wk.keep Wk.nil))))))))))))) (fun s47 => (sv_frz (i := 3) (ds := s47) rfl <| (sv_ret (ev_var (i := 3) (d := (.lst s47)) rfl) wkU)))))))))))))))) ⟨cells_hand (n := 4) hf r rfl, by simpa using wd⟩ (fun _ _ _ _ h => h) e
theorem sc__law_wrong : FnScope ["_law_hand_here", "_law_sight", "_law_many", "_law_kind", "_law_first", "_law_at"] ["_law_hand_here", "_law_sight", "_law_many"] (defScope s__law_wrong) := ⟨rfl, rfl, rfl, by decide +kernel, rfl, by decide +kernel, by decide +kernel⟩
theorem ok__law_wrong (T : Tx K mg A) : FnG P w K mg base (L2.CX P w) 5 A.a__law_wrong A.d__law_wrong ["_law_hand_here", "_law_sight", "_law_many"] (spD (Zo K A) m__law_wrong) :=
  fnD_okG T.F__law_wrong sc__law_wrong (fun vs H Q E h => spD_len (fun cs ds h => match ds, h with | [], _ => rfl | [_], _ => rfl | [_, _], h => absurd rfl h | _ :: _ :: _ :: _, _ => rfl) h) fun cdv A' outer s H vs Q E hg hr h => by
    obtain ⟨p, c, cells, L0, G, s0, vs', ds, rfl, hf, wd, r, e⟩ := h
    have hJ : HandJ (⟨Zo K A, fun h => (p, hHO c h) :: L0, fun cls d _ H => E cls d H⟩ : Jc Hd) p c := ⟨[], L0, fun _ => rfl⟩
    match ds, r, e with
    | [], _, e => exact e.elim
    | [_], _, e => exact e.elim
    | _ :: _ :: _ :: _, _, e => exact e.elim
    | [a_sight, a_many], r, e =>
    refine ⟨_, (pss_cons (ps_set (i := 3) sc__law_wrong.nd rfl (by first | exact Or.inl rfl | exact Or.inr rfl) (by exact (pe_callG (by exact hg) (ok__law_take T) (hr.mono (by first | decide | exact Nat.le_refl _ | omega | (simp only [Nat.add_eq]; omega))) rfl T.g__law_take T.F__law_take.kp T.b__law_take .nil (fun σ => passAt (takes_of rfl rfl rfl rfl) σ) (by exact (pa_cons (pv 0) (pa_cons pe_int pa_nil)))))) (pss_cons (ps_if (pt_cmpR (op_eqK (K := K) rfl hr.units) (pv 3) pe_int (nomark _)) (pss_one (ps_ret (by exact (pe_ix (ix_seqK (K := K) rfl) (pe_lst (pa_cons (pe_callG (by exact hg) (ok__law_rid T) (hr.mono (by first | decide | exact Nat.le_refl _ | omega | (simp only [Nat.add_eq]; omega))) rfl T.g__law_rid T.F__law_rid.kp T.b__law_rid .nil (fun σ => passAt (takes_of rfl rfl rfl rfl) σ) (by exact (pa_cons (pv 0) pa_nil))) (pa_cons (pe_lst (pa_cons (pe_ix (ix_seqK (K := K) rfl) (pv 1) pe_int (fun _ _ => rfl)) pa_nil)) (pa_cons (pe_op (op_addK (K := K) rfl) (pe_callTy (call_lstK (K := K) rfl) rfl T.n_list rfl (pa_cons (pv 1) pa_nil)) (pe_lst (pa_cons pe_int pa_nil))) pa_nil)))) (pe_callG (by exact hg) (ok__law_take T) (hr.mono (by first | decide | exact Nat.le_refl _ | omega | (simp only [Nat.add_eq]; omega))) rfl T.g__law_take T.F__law_take.kp T.b__law_take .nil (fun σ => passAt (takes_of rfl rfl rfl rfl) σ) (by exact (pa_cons (pv 0) (pa_cons pe_int pa_nil)))) (fun _ _ => rfl))))) pss_nil) (pss_cons (ps_if (pt_cmpR (op_eqK (K := K) rfl hr.units) (pv 3) pe_int (nomark _)) (pss_one (ps_ret (by exact (pe_lst (pa_cons (pe_callG (by exact hg) (ok__law_cracked T) (hr.mono (by first | decide | exact Nat.le_refl _ | omega | (simp only [Nat.add_eq]; omega))) rfl T.g__law_cracked T.F__law_cracked.kp T.b__law_cracked .nil (fun σ => passAt (takes_of rfl rfl rfl rfl) σ) (by exact (pa_cons (pv 0) (pa_cons (pe_ix (ix_seqK (K := K) rfl) (pv 1) pe_int (fun _ _ => rfl)) (pa_cons (pv 2) pa_nil))))) (pa_cons (pe_ix (ix_seqK (K := K) rfl) (pv 1) pe_int (fun _ _ => rfl)) pa_nil)))))) pss_nil) (pss_cons (ps_if (pt_cmpR (op_eqK (K := K) rfl hr.units) (pv 3) pe_int (nomark _)) (pss_one (ps_ret (by exact (pe_lst (pa_cons (pe_ix (ix_seqK (K := K) rfl) (pv 1) pe_int (fun _ _ => rfl)) (pa_cons (pe_callG (by exact hg) (ok__law_torn T) (hr.mono (by first | decide | exact Nat.le_refl _ | omega | (simp only [Nat.add_eq]; omega))) rfl T.g__law_torn T.F__law_torn.kp T.b__law_torn .nil (fun σ => passAt (takes_of rfl rfl rfl rfl) σ) (by exact (pa_cons (pv 0) (pa_cons (pe_ix (ix_seqK (K := K) rfl) (pv 1) pe_int (fun _ _ => rfl)) pa_nil)))) pa_nil)))))) pss_nil) (pss_cons (ps_if (pt_cmpR (op_eqK (K := K) rfl hr.units) (pv 3) pe_int (nomark _)) (pss_cons (ps_set (i := 4) sc__law_wrong.nd rfl (by first | exact Or.inl rfl | exact Or.inr rfl) (by exact (pe_callTy (call_lstK (K := K) rfl) rfl T.n_list rfl (pa_cons (pe_ix (ix_seqK (K := K) rfl) (pe_ix (ix_seqK (K := K) rfl) (pv 1) pe_int (fun _ _ => rfl)) pe_int (fun _ _ => rfl)) pa_nil)))) (pss_cons (ps_set (i := 5) sc__law_wrong.nd rfl (by first | exact Or.inl rfl | exact Or.inr rfl) (by exact (pe_callG (by exact hg) (ok__law_take T) (hr.mono (by first | decide | exact Nat.le_refl _ | omega | (simp only [Nat.add_eq]; omega))) rfl T.g__law_take T.F__law_take.kp T.b__law_take .nil (fun σ => passAt (takes_of rfl rfl rfl rfl) σ) (by exact (pa_cons (pv 0) (pa_cons (pv 2) pa_nil)))))) (pss_cons (ps_asg (pe_op op_modN (pe_callTy call_int1 rfl T.n_int rfl (pa_cons (pe_op (op_addK (K := K) rfl) (pe_op (op_addK (K := K) rfl) (pe_ix (ix_seqK (K := K) rfl) (pv 4) (pv 5) (fun _ _ => rfl)) pe_int) (pe_callG (by exact hg) (ok__law_take T) (hr.mono (by first | decide | exact Nat.le_refl _ | omega | (simp only [Nat.add_eq]; omega))) rfl T.g__law_take T.F__law_take.kp T.b__law_take .nil (fun σ => passAt (takes_of rfl rfl rfl rfl) σ) (by exact (pa_cons (pv 0) (pa_cons pe_int pa_nil))))) pa_nil)) pe_int) (pg_sub (pv 4) (pv 5) set_list)) (pss_one (ps_ret (by exact (pe_lst (pa_cons (pe_ix (ix_seqK (K := K) rfl) (pv 1) pe_int (fun _ _ => rfl)) (pa_cons (pe_op (op_addK (K := K) rfl) (pe_lst (pa_cons (pv 4) pa_nil)) (pe_callTy (call_lstK (K := K) rfl) rfl T.n_list rfl (pa_cons (pe_slice (sl_anyK (K := K) rfl) (pe_ix (ix_seqK (K := K) rfl) (pv 1) pe_int (fun _ _ => rfl)) (po_some pe_int) po_none) pa_nil))) pa_nil))))))))) pss_nil) (pss_one (ps_ret (by exact (pv 1))))))))), ?_⟩
    exact bodyD_ok (ρ := [.A p (hF c cells), .P a_sight, .P a_many, .U, .U, .U]) (J := ⟨Zo K A, fun h => (p, hHO c h) :: L0, fun cls d _ H => E cls d H⟩) (esc := List.replicate 6 .U) (sv_seq (e := fun (v_kind_1 : D) => ([.A p (hF c cells), .P a_sight, .P a_many, .P v_kind_1, .U, .U] : Dm.Env)) (sv_asg (ev_callD (dds := []) hJ rfl (ea_cons ev_int ea_nil)) wkU) (fun v_kind_1 => (sv_ifR (et_test (ev_op o2_eq (Ev.x (ev_var (i := 3) (d := v_kind_1) rfl)) (Ev.x ev_int))) wkU (sv_ret (ev_op o2_ix (Ev.x (ev_new (el_lst (ea_cons (ev_callD (dds := []) hJ rfl ea_nil) (ea_cons (ev_new (el_lst (ea_cons (ev_op o2_ix (Ev.x (ev_var (i := 1) (d := a_sight) rfl)) (Ev.x ev_int)) ea_nil))) (ea_cons (ev_op o2_add (Ev.x (ev_new (el_list (Ev.x (ev_var (i := 1) (d := a_sight) rfl))))) (Ev.x (ev_new (el_lst (ea_cons ev_int ea_nil))))) ea_nil)))))) (Ev.x (ev_callD (dds := []) hJ rfl (ea_cons ev_int ea_nil)))) wkU) (sv_skip (sv_ifR (et_test (ev_op o2_eq (Ev.x (ev_var (i := 3) (d := v_kind_1) rfl)) (Ev.x ev_int))) wkU (sv_ret (ev_new (el_lst (ea_cons (ev_callD (dds := []) hJ rfl (ea_cons (ev_op o2_ix (Ev.x (ev_var (i := 1) (d := a_sight) rfl)) (Ev.x ev_int)) (ea_cons (ev_var (i := 2) (d := a_many) rfl) ea_nil))) (ea_cons (ev_op o2_ix (Ev.x (ev_var (i := 1) (d := a_sight) rfl)) (Ev.x ev_int)) ea_nil)))) wkU) (sv_skip (sv_ifR (et_test (ev_op o2_eq (Ev.x (ev_var (i := 3) (d := v_kind_1) rfl)) (Ev.x ev_int))) wkU (sv_ret (ev_new (el_lst (ea_cons (ev_op o2_ix (Ev.x (ev_var (i := 1) (d := a_sight) rfl)) (Ev.x ev_int)) (ea_cons (ev_callD (dds := []) hJ rfl (ea_cons (ev_op o2_ix (Ev.x (ev_var (i := 1) (d := a_sight) rfl)) (Ev.x ev_int)) ea_nil)) ea_nil)))) wkU) (sv_skip (sv_ifR (et_test (ev_op o2_eq (Ev.x (ev_var (i := 3) (d := v_kind_1) rfl)) (Ev.x ev_int))) wkU (sv_seq (e := fun (v_first_77 : List D) => ([.A p (hF c cells), .P a_sight, .P a_many, .P v_kind_1, .O v_first_77, .U] : Dm.Env)) (sv_asgL (el_list (Ev.x (ev_op o2_ix (Ev.x (ev_op o2_ix (Ev.x (ev_var (i := 1) (d := a_sight) rfl)) (Ev.x ev_int))) (Ev.x ev_int)))) wkU (hi := Nat.le_of_ble_eq_true rfl)) (fun v_first_77 => (sv_seq (e := fun (v_at_83 : D) => ([.A p (hF c cells), .P a_sight, .P a_many, .P v_kind_1, .O v_first_77, .P v_at_83] : Dm.Env)) (sv_asg (ev_callD (dds := []) hJ rfl (ea_cons (ev_var (i := 2) (d := a_many) rfl) ea_nil)) wkU) (fun v_at_83 => (sv_seq (e := fun (es101 : List D) => ([.A p (hF c cells), .P a_sight, .P a_many, .P v_kind_1, .O es101, .P v_at_83] : Dm.Env)) (sv_setI (i := 4) rfl (ev_op o2_mod (Ev.x (ev_b1 o1_int (Ev.x (ev_op o2_add (Ev.x (ev_op o2_add (Ev.x (ev_op o2_ix (ex_own (i := 4) (ds := v_first_77) rfl) (Ev.x (ev_var (i := 5) (d := v_at_83) rfl)))) (Ev.x ev_int))) (Ev.x (ev_callD (dds := []) hJ rfl (ea_cons ev_int ea_nil))))))) (Ev.x ev_int)) (ev_var (i := 5) (d := v_at_83) rfl) wkU) (fun es101 => (sv_frz (i := 4) (ds := es101) rfl <| (sv_ret (ev_new (el_lst (ea_cons (ev_op o2_ix (Ev.x (ev_var (i := 1) (d := a_sight) rfl)) (Ev.x ev_int)) (ea_cons (ev_op o2_add (Ev.x (ev_new (el_lst (ea_cons (ev_var (i := 4) (d := (.lst es101)) rfl) ea_nil)))) (Ev.x (ev_new (el_list (Ev.x (ev_sl (Ev.x (ev_op o2_ix (Ev.x (ev_var (i := 1) (d := a_sight) rfl)) (Ev.x ev_int))) (eo_some ev_int) eo_none)))))) ea_nil)))) wkU)))))))) (sv_skip (sv_ret (ev_var (i := 1) (d := a_sight) rfl) wkU))))))))))) ⟨cells_hand (n := 3) hf r rfl, by simpa using wd⟩ (fun _ _ _ _ h => h) e
theorem sc__law_begun : FnScope ["_law_hand_here", "_law_firsts", "_law_kind", "_law_at"] ["_law_hand_here", "_law_firsts"] (defScope s__law_begun) := ⟨rfl, rfl, rfl, by decide +kernel, rfl, by decide +kernel, by decide +kernel⟩
theorem ok__law_begun (T : Tx K mg A) : FnG P w K mg base (L2.CX P w) 4 A.a__law_begun A.d__law_begun ["_law_hand_here", "_law_firsts"] (spD (Zo K A) m__law_begun) :=
  fnD_okG T.F__law_begun sc__law_begun (fun vs H Q E h => spD_len (fun cs ds h => match ds, h with | [], _ => rfl | [_], h => absurd rfl h | _ :: _ :: _, _ => rfl) h) fun cdv A' outer s H vs Q E hg hr h => by
    obtain ⟨p, c, cells, L0, G, s0, vs', ds, rfl, hf, wd, r, e⟩ := h
    have hJ : HandJ (⟨Zo K A, fun h => (p, hHO c h) :: L0, fun cls d _ H => E cls d H⟩ : Jc Hd) p c := ⟨[], L0, fun _ => rfl⟩
    match ds, r, e with
    | [], _, e => exact e.elim
    | _ :: _ :: _, _, e => exact e.elim
    | [a_firsts], r, e =>
    refine ⟨_, (pss_cons (ps_if (pt_truK (K := K) rfl (pe_callG (by exact hg) (ok__law_take T) (hr.mono (by first | decide | exact Nat.le_refl _ | omega | (simp only [Nat.add_eq]; omega))) rfl T.g__law_take T.F__law_take.kp T.b__law_take .nil (fun σ => passAt (takes_of rfl rfl rfl rfl) σ) (by exact (pa_cons (pv 0) (pa_cons pe_int pa_nil)))) (fun _ => rfl)) (pss_one (ps_ret (by exact (pv 1)))) pss_nil) (pss_cons (ps_set (i := 2) sc__law_begun.nd rfl (by first | exact Or.inl rfl | exact Or.inr rfl) (by exact (pe_callG (by exact hg) (ok__law_take T) (hr.mono (by first | decide | exact Nat.le_refl _ | omega | (simp only [Nat.add_eq]; omega))) rfl T.g__law_take T.F__law_take.kp T.b__law_take .nil (fun σ => passAt (takes_of rfl rfl rfl rfl) σ) (by exact (pa_cons (pv 0) (pa_cons pe_int pa_nil)))))) (pss_cons (ps_if (pt_cmpR (op_eqK (K := K) rfl hr.units) (pv 2) pe_int (nomark _)) (pss_one (ps_ret (by exact (pe_callG (by exact hg) (ok__law_rid T) (hr.mono (by first | decide | exact Nat.le_refl _ | omega | (simp only [Nat.add_eq]; omega))) rfl T.g__law_rid T.F__law_rid.kp T.b__law_rid .nil (fun σ => passAt (takes_of rfl rfl rfl rfl) σ) (by exact (pa_cons (pv 0) pa_nil)))))) pss_nil) (pss_cons (ps_if (pt_cmpR (op_eqK (K := K) rfl hr.units) (pv 2) pe_int (nomark _)) (pss_one (ps_ret (by exact (pe_lst pa_nil)))) pss_nil) (pss_cons (ps_if (pt_cmpR (op_eqK (K := K) rfl hr.units) (pv 2) pe_int (nomark _)) (pss_one (ps_ret (by exact (pe_slice (sl_anyK (K := K) rfl) (pe_op op_mulG (pv 1) pe_int) po_none (po_some pe_int))))) pss_nil) (pss_cons (ps_set (i := 3) sc__law_begun.nd rfl (by first | exact Or.inl rfl | exact Or.inr rfl) (by exact (pe_callG (by exact hg) (ok__law_take T) (hr.mono (by first | decide | exact Nat.le_refl _ | omega | (simp only [Nat.add_eq]; omega))) rfl T.g__law_take T.F__law_take.kp T.b__law_take .nil (fun σ => passAt (takes_of rfl rfl rfl rfl) σ) (by exact (pa_cons (pv 0) (pa_cons (pe_callB (call_lnK (K := K) rfl) rfl T.n_len rfl (pa_cons (pv 1) pa_nil)) pa_nil)))))) (pss_one (ps_ret (by exact (pe_op (op_addK (K := K) rfl) (pe_op (op_addK (K := K) rfl) (pe_slice (sl_anyK (K := K) rfl) (pv 1) po_none (po_some (pv 3))) (pe_lst (pa_cons (pe_callG (by exact hg) (ok__law_odd T) (hr.mono (by first | decide | exact Nat.le_refl _ | omega | (simp only [Nat.add_eq]; omega))) rfl T.g__law_odd T.F__law_odd.kp T.b__law_odd .nil (fun σ => passAt (takes_of rfl rfl rfl rfl) σ) (by exact (pa_cons (pv 0) (pa_cons pe_int pa_nil)))) pa_nil))) (pe_slice (sl_anyK (K := K) rfl) (pv 1) (po_some (pe_op (op_addK (K := K) rfl) (pv 3) pe_int)) po_none))))))))))), ?_⟩
    exact bodyD_ok (ρ := [.A p (hF c cells), .P a_firsts, .U, .U]) (J := ⟨Zo K A, fun h => (p, hHO c h) :: L0, fun cls d _ H => E cls d H⟩) (esc := List.replicate 4 .U) (sv_ifR (et_tru (Ev.x (ev_callD (dds := []) hJ rfl (ea_cons ev_int ea_nil)))) wkU (sv_ret (ev_var (i := 1) (d := a_firsts) rfl) wkU) (sv_skip (sv_seq (e := fun (v_kind_6 : D) => ([.A p (hF c cells), .P a_firsts, .P v_kind_6, .U] : Dm.Env)) (sv_asg (ev_callD (dds := []) hJ rfl (ea_cons ev_int ea_nil)) wkU) (fun v_kind_6 => (sv_ifR (et_test (ev_op o2_eq (Ev.x (ev_var (i := 2) (d := v_kind_6) rfl)) (Ev.x ev_int))) wkU (sv_ret (ev_callD (dds := []) hJ rfl ea_nil) wkU) (sv_skip (sv_ifR (et_test (ev_op o2_eq (Ev.x (ev_var (i := 2) (d := v_kind_6) rfl)) (Ev.x ev_int))) wkU (sv_ret (ev_new (el_lst ea_nil)) wkU) (sv_skip (sv_ifR (et_test (ev_op o2_eq (Ev.x (ev_var (i := 2) (d := v_kind_6) rfl)) (Ev.x ev_int))) wkU (sv_ret (ev_sl (Ev.x (ev_op o2_mul (Ev.x (ev_var (i := 1) (d := a_firsts) rfl)) (Ev.x ev_int))) eo_none (eo_some ev_int)) wkU) (sv_skip (sv_seq (e := fun (v_at_31 : D) => ([.A p (hF c cells), .P a_firsts, .P v_kind_6, .P v_at_31] : Dm.Env)) (sv_asg (ev_callD (dds := []) hJ rfl (ea_cons (ev_b1 o1_len (Ev.x (ev_var (i := 1) (d := a_firsts) rfl))) ea_nil)) wkU) (fun v_at_31 => (sv_ret (ev_op o2_add (Ev.x (ev_op o2_add (Ev.x (ev_sl (Ev.x (ev_var (i := 1) (d := a_firsts) rfl)) eo_none (eo_some (ev_var (i := 3) (d := v_at_31) rfl)))) (Ev.x (ev_new (el_lst (ea_cons (ev_callD (dds := []) hJ rfl (ea_cons ev_int ea_nil)) ea_nil)))))) (Ev.x (ev_sl (Ev.x (ev_var (i := 1) (d := a_firsts) rfl)) (eo_some (ev_op o2_add (Ev.x (ev_var (i := 3) (d := v_at_31) rfl)) (Ev.x ev_int))) eo_none))) wkU))))))))))))) ⟨cells_hand (n := 2) hf r rfl, by simpa using wd⟩ (fun _ _ _ _ h => h) e
theorem sc_law : FnScope ["_law_script", "_law_hand_here", "_law_many", "_law_firsts", "_law_sights", "_law_turn", "_law_size", "_law_pours_here", "_law_rows", "_law_step", "_law_upto", "_law_limit", "_law_plain", "_law_kept", "_law_spoilt", "_law_begun_here", "_law_due_here", "_law_handed", "_law_found", "_law_mark", "_law_sight"] ["_law_script"] (defScope s_law) := ⟨rfl, rfl, rfl, by decide +kernel, rfl, by decide +kernel, by decide +kernel⟩
theorem ok_law (T : Tx K mg A) (hm : ∀ (cells : List Int) (tot : Int), cells.length ≤ 63 → ∃ s, m_law cells ⟨0, 0, tot⟩ = .ok (.bl true) s) : FnG P w K mg base (L2.CX P w) 12 A.a_law A.d_law ["_law_script"] (spLaw K) :=
  fnD_okG T.F_law sc_law (fun vs H Q E h => by obtain ⟨a, ns, rfl, _⟩ := h; rfl) fun cdv A' outer s H vs Q E hg hr h => by
    refine ⟨_, pss_cons (ps_set (i := 1) sc_law.nd rfl (by first | exact Or.inl rfl | exact Or.inr rfl) (by exact (pe_callSD (ok__law_hand T) (hr.mono (by first | decide | exact Nat.le_refl _ | omega | (simp only [Nat.add_eq]; omega))) rfl T.g__law_hand T.F__law_hand.kp T.b__law_hand .nil (fun σ => passAt (takes_of rfl rfl rfl rfl) σ) (by exact (pa_cons (pv 0) pa_nil)))) ) (pss_cons (ps_set (i := 2) sc_law.nd rfl (by first | exact Or.inl rfl | exact Or.inr rfl) (by exact (pe_op (op_addK (K := K) rfl) pe_int (pe_callG (by exact hg) (ok__law_take T) (hr.mono (by first | decide | exact Nat.le_refl _ | omega | (simp only [Nat.add_eq]; omega))) rfl T.g__law_take T.F__law_take.kp T.b__law_take .nil (fun σ => passAt (takes_of rfl rfl rfl rfl) σ) (by exact (pa_cons (pv 1) (pa_cons pe_int pa_nil))))))) (pss_cons (ps_setLc (i := 3) (own := [("_law_mark", 19)]) rfl sc_law.nd rfl rfl (sw_true rfl rfl rfl (by decide +kernel)) (pi_range1 rfl T.n_range (pa_cons (pv 2) pa_nil)) (blkOk_by (N := ["_law_script", "_law_hand_here", "_law_many", "_law_firsts", "_law_sights", "_law_turn", "_law_size", "_law_pours_here", "_law_rows", "_law_step", "_law_upto", "_law_limit", "_law_plain", "_law_kept", "_law_spoilt", "_law_begun_here", "_law_due_here", "_law_handed", "_law_found", "_law_mark", "_law_sight"]) (sc := defScope s_law) (by decide +kernel)) (fun _ _ _ _ _ => by exact (pg_name (i := 19) sc_law.nd rfl (Or.inl rfl))) (fun _ _ _ _ _ => by exact pts_nil) (fun _ _ _ _ _ => by exact (pe_callG (by exact hg) (ok__law_colour T) (hr.mono (by first | decide | exact Nat.le_refl _ | omega | (simp only [Nat.add_eq]; omega))) rfl T.g__law_colour T.F__law_colour.kp T.b__law_colour .nil (passN (fun _ _ _ _ q => q)) (by exact (pa_cons (pv 1) pa_nil))))) (pss_cons (ps_set (i := 4) sc_law.nd rfl (by first | exact Or.inl rfl | exact Or.inr rfl) (by exact (pe_lst pa_nil))) (pss_cons (ps_for PassesOwn.leaving rfl (pi_range1 rfl T.n_range (pa_cons (pe_callG (by exact hg) (ok__law_take T) (hr.mono (by first | decide | exact Nat.le_refl _ | omega | (simp only [Nat.add_eq]; omega))) rfl T.g__law_take T.F__law_take.kp T.b__law_take .nil (fun σ => passAt (takes_of rfl rfl rfl rfl) σ) (by exact (pa_cons (pv 1) (pa_cons pe_int pa_nil)))) pa_nil)) (pg_name (i := 5) sc_law.nd rfl (by first | exact Or.inl rfl | exact Or.inr rfl)) (pss_cons (ps_set (i := 6) sc_law.nd rfl (by first | exact Or.inl rfl | exact Or.inr rfl) (by exact (pe_ix (ix_seqK (K := K) rfl) (pe_lst (pa_cons (pe_callG (by exact hg) (ok__law_take T) (hr.mono (by first | decide | exact Nat.le_refl _ | omega | (simp only [Nat.add_eq]; omega))) rfl T.g__law_take T.F__law_take.kp T.b__law_take .nil (fun σ => passAt (takes_of rfl rfl rfl rfl) σ) (by exact (pa_cons (pv 1) (pa_cons pe_int pa_nil)))) (pa_cons (pe_callG (by exact hg) (ok__law_take T) (hr.mono (by first | decide | exact Nat.le_refl _ | omega | (simp only [Nat.add_eq]; omega))) rfl T.g__law_take T.F__law_take.kp T.b__law_take .nil (fun σ => passAt (takes_of rfl rfl rfl rfl) σ) (by exact (pa_cons (pv 1) (pa_cons pe_int pa_nil)))) (pa_cons pe_int pa_nil)))) (pe_callG (by exact hg) (ok__law_take T) (hr.mono (by first | decide | exact Nat.le_refl _ | omega | (simp only [Nat.add_eq]; omega))) rfl T.g__law_take T.F__law_take.kp T.b__law_take .nil (fun σ => passAt (takes_of rfl rfl rfl rfl) σ) (by exact (pa_cons (pv 1) (pa_cons pe_int pa_nil)))) (fun _ _ => rfl)))) (pss_cons (ps_setLc (i := 7) (own := [("_law_step", 9)]) rfl sc_law.nd rfl rfl (sw_true rfl rfl rfl (by decide +kernel)) (pi_range1 rfl T.n_range (pa_cons (pv 6) pa_nil)) (blkOk_by (N := ["_law_script", "_law_hand_here", "_law_many", "_law_firsts", "_law_sights", "_law_turn", "_law_size", "_law_pours_here", "_law_rows", "_law_step", "_law_upto", "_law_limit", "_law_plain", "_law_kept", "_law_spoilt", "_law_begun_here", "_law_due_here", "_law_handed", "_law_found", "_law_mark", "_law_sight"]) (sc := defScope s_law) (by decide +kernel)) (fun _ _ _ _ _ => by exact (pg_name (i := 9) sc_law.nd rfl (Or.inl rfl))) (fun _ _ _ _ _ => by exact pts_nil) (fun _ _ _ _ _ => by exact (pe_tup (pa_cons (pe_callG (by exact hg) (ok__law_take T) (hr.mono (by first | decide | exact Nat.le_refl _ | omega | (simp only [Nat.add_eq]; omega))) rfl T.g__law_take T.F__law_take.kp T.b__law_take .nil (passN (fun _ _ _ _ q => q)) (by exact (pa_cons (pv 1) (pa_cons (pv 2) pa_nil)))) (pa_cons (pe_callG (by exact hg) (ok__law_colour T) (hr.mono (by first | decide | exact Nat.le_refl _ | omega | (simp only [Nat.add_eq]; omega))) rfl T.g__law_colour T.F__law_colour.kp T.b__law_colour .nil (passN (fun _ _ _ _ q => q)) (by exact (pa_cons (pv 1) pa_nil))) pa_nil))))) (pss_cons (ps_set (i := 8) sc_law.nd rfl (by first | exact Or.inl rfl | exact Or.inr rfl) (by exact (pe_lst (pa_cons (pe_callTy (call_tupK (K := K) rfl) rfl T.n_tuple rfl (pa_cons (pv 3) pa_nil)) pa_nil)))) (pss_cons (ps_for PassesOwn.leaving rfl (pi_range1 rfl T.n_range (pa_cons (pv 6) pa_nil)) (pg_name (i := 9) sc_law.nd rfl (by first | exact Or.inl rfl | exact Or.inr rfl)) (pss_cons (ps_expr (pe_bm PySem.F.plainAttrs_list PySem.F.slot_list_append PySem.F.type_list_append mt_append (pv 8) (pa_cons (pe_callTy (call_tupK (K := K) rfl) rfl T.n_tuple rfl (pa_cons (pe_lc (own := [("_law_mark", 19)]) rfl sc_law.nd (pi_range1 rfl T.n_range (pa_cons (pv 2) pa_nil)) (blkOk_by (N := ["_law_script", "_law_hand_here", "_law_many", "_law_firsts", "_law_sights", "_law_turn", "_law_size", "_law_pours_here", "_law_rows", "_law_step", "_law_upto", "_law_limit", "_law_plain", "_law_kept", "_law_spoilt", "_law_begun_here", "_law_due_here", "_law_handed", "_law_found", "_law_mark", "_law_sight"]) (sc := defScope s_law) (by decide +kernel)) (fun _ _ _ _ _ => by exact (pg_name (i := 19) sc_law.nd rfl (Or.inl rfl))) (fun _ _ _ _ _ => by exact pts_nil) (fun _ _ _ _ _ => by exact (pe_callG (by exact hg) (ok__law_colour T) (hr.mono (by first | decide | exact Nat.le_refl _ | omega | (simp only [Nat.add_eq]; omega))) rfl T.g__law_colour T.F__law_colour.kp T.b__law_colour .nil (passN (fun _ _ _ _ q => q)) (by exact (pa_cons (pv 1) pa_nil))))) pa_nil)) pa_nil))) pss_nil)) (pss_cons (ps_expr (pe_bm PySem.F.plainAttrs_list PySem.F.slot_list_append PySem.F.type_list_append mt_append (pv 4) (pa_cons (pe_tup (pa_cons (pv 7) (pa_cons (pv 8) pa_nil))) pa_nil))) pss_nil)))))) (pss_cons (ps_set (i := 10) sc_law.nd rfl (by first | exact Or.inl rfl | exact Or.inr rfl) (by exact (pe_ifExp (pt_truK (K := K) rfl (pe_callG (by exact hg) (ok__law_take T) (hr.mono (by first | decide | exact Nat.le_refl _ | omega | (simp only [Nat.add_eq]; omega))) rfl T.g__law_take T.F__law_take.kp T.b__law_take .nil (fun σ => passAt (takes_of rfl rfl rfl rfl) σ) (by exact (pa_cons (pv 1) (pa_cons pe_int pa_nil)))) (fun _ => rfl)) pe_non (pe_callG (by exact hg) (ok__law_take T) (hr.mono (by first | decide | exact Nat.le_refl _ | omega | (simp only [Nat.add_eq]; omega))) rfl T.g__law_take T.F__law_take.kp T.b__law_take .nil (fun σ => passAt (takes_of rfl rfl rfl rfl) σ) (by exact (pa_cons (pv 1) (pa_cons pe_int pa_nil))))))) (pss_cons (ps_set (i := 11) sc_law.nd rfl (by first | exact Or.inl rfl | exact Or.inr rfl) (by exact (pe_ifExp (pt_cmpR op_isN (pv 10) pe_non (nomark _)) pe_int (pv 10)))) (pss_cons (ps_set (i := 12) sc_law.nd rfl (by first | exact Or.inl rfl | exact Or.inr rfl) (by exact (pe_callG (by exact hg) (ok__law_lists T 8) (hr.mono (by first | decide | exact Nat.le_refl _ | omega | (simp only [Nat.add_eq]; omega))) rfl T.g__law_lists T.F__law_lists.kp T.b__law_lists .nil (fun σ => passAt (takes_of rfl rfl rfl rfl) σ) (by exact (pa_cons (pv 1) (pa_cons (pv 4) pa_nil)))))) (pss_cons (ps_set (i := 13) sc_law.nd rfl (by first | exact Or.inl rfl | exact Or.inr rfl) (by exact (pe_callG (by exact hg) (ok__law_bare T 8) (hr.mono (by first | decide | exact Nat.le_refl _ | omega | (simp only [Nat.add_eq]; omega))) rfl T.g__law_bare T.F__law_bare.kp T.b__law_bare .nil (fun σ => passAt (takes_of rfl rfl rfl rfl) σ) (by exact (pa_cons (pv 12) pa_nil))))) (pss_cons (ps_if (PW.pt (pw_or (pt_cmpR (op_neYK (K := K) rfl hr.units) (pe_callG (by exact hg) (ok__law_asked T) (hr.mono (by first | decide | exact Nat.le_refl _ | omega | (simp only [Nat.add_eq]; omega))) rfl T.g__law_asked T.F__law_asked.kp T.b__law_asked .nil (fun σ => passAt (takes_of rfl rfl rfl rfl) σ) (by exact (pa_cons (pe_callG (by exact hg) (ok__law_lists T 8) (hr.mono (by first | decide | exact Nat.le_refl _ | omega | (simp only [Nat.add_eq]; omega))) rfl T.g__law_lists T.F__law_lists.kp T.b__law_lists .nil (fun σ => passAt (takes_of rfl rfl rfl rfl) σ) (by exact (pa_cons (pv 1) (pa_cons (pv 3) pa_nil)))) (pa_cons (pv 12) (pa_cons (pv 10) pa_nil))))) (pe_callG (by exact hg) (ok__law_due T) (hr.mono (by first | decide | exact Nat.le_refl _ | omega | (simp only [Nat.add_eq]; omega))) rfl T.g__law_due T.F__law_due.kp T.b__law_due .nil (fun σ => passAt (takes_of rfl rfl rfl rfl) σ) (by exact (pa_cons (pv 3) (pa_cons (pv 4) (pa_cons (pv 11) pa_nil))))) (nomark _)) (pw_or1 (pt_cmpR (op_neYK (K := K) rfl hr.units) (pe_callG (by exact hg) (ok__law_bare T 8) (hr.mono (by first | decide | exact Nat.le_refl _ | omega | (simp only [Nat.add_eq]; omega))) rfl T.g__law_bare T.F__law_bare.kp T.b__law_bare .nil (fun σ => passAt (takes_of rfl rfl rfl rfl) σ) (by exact (pa_cons (pv 12) pa_nil))) (pv 13) (nomark _))))) (pss_one (ps_ret (by exact pe_bl))) pss_nil) (pss_cons (ps_for PassesOwn.leaving rfl (pi_range1 rfl T.n_range (pa_cons pe_int pa_nil)) (pg_name (i := 5) sc_law.nd rfl (by first | exact Or.inl rfl | exact Or.inr rfl)) (pss_cons (ps_setLc (i := 14) (own := [("_law_sight", 20)]) rfl sc_law.nd rfl rfl (sw_true rfl rfl rfl (by decide +kernel)) (pi_sqK (K := K) rfl (pv 4)) (blkOk_by (N := ["_law_script", "_law_hand_here", "_law_many", "_law_firsts", "_law_sights", "_law_turn", "_law_size", "_law_pours_here", "_law_rows", "_law_step", "_law_upto", "_law_limit", "_law_plain", "_law_kept", "_law_spoilt", "_law_begun_here", "_law_due_here", "_law_handed", "_law_found", "_law_mark", "_law_sight"]) (sc := defScope s_law) (by decide +kernel)) (fun _ _ _ _ _ => by exact (pg_name (i := 20) sc_law.nd rfl (Or.inl rfl))) (fun _ _ _ _ _ => by exact pts_nil) (fun _ _ _ _ _ => by exact (pe_callG (by exact hg) (ok__law_wrong T) (hr.mono (by first | decide | exact Nat.le_refl _ | omega | (simp only [Nat.add_eq]; omega))) rfl T.g__law_wrong T.F__law_wrong.kp T.b__law_wrong .nil (passN (fun _ _ _ _ q => q)) (by exact (pa_cons (pv 1) (pa_cons (pv 20) (pa_cons (pv 2) pa_nil))))))) (pss_cons (ps_if (pt_cmpR (op_eqK (K := K) rfl hr.units) (pe_callG (by exact hg) (ok__law_take T) (hr.mono (by first | decide | exact Nat.le_refl _ | omega | (simp only [Nat.add_eq]; omega))) rfl T.g__law_take T.F__law_take.kp T.b__law_take .nil (fun σ => passAt (takes_of rfl rfl rfl rfl) σ) (by exact (pa_cons (pv 1) (pa_cons pe_int pa_nil)))) pe_int (nomark _)) (pss_cons (ps_set (i := 14) sc_law.nd rfl (by first | exact Or.inl rfl | exact Or.inr rfl) (by exact (pe_callG (by exact hg) (ok__law_rid T) (hr.mono (by first | decide | exact Nat.le_refl _ | omega | (simp only [Nat.add_eq]; omega))) rfl T.g__law_rid T.F__law_rid.kp T.b__law_rid .nil (fun σ => passAt (takes_of rfl rfl rfl rfl) σ) (by exact (pa_cons (pv 1) pa_nil))))) pss_nil) pss_nil) (pss_cons (ps_set (i := 15) sc_law.nd rfl (by first | exact Or.inl rfl | exact Or.inr rfl) (by exact (pe_callG (by exact hg) (ok__law_begun T) (hr.mono (by first | decide | exact Nat.le_refl _ | omega | (simp only [Nat.add_eq]; omega))) rfl T.g__law_begun T.F__law_begun.kp T.b__law_begun .nil (fun σ => passAt (takes_of rfl rfl rfl rfl) σ) (by exact (pa_cons (pv 1) (pa_cons (pv 3) pa_nil)))))) (pss_cons (ps_set (i := 16) sc_law.nd rfl (by first | exact Or.inl rfl | exact Or.inr rfl) (by exact (pe_callG (by exact hg) (ok__law_due T) (hr.mono (by first | decide | exact Nat.le_refl _ | omega | (simp only [Nat.add_eq]; omega))) rfl T.g__law_due T.F__law_due.kp T.b__law_due .nil (fun σ => passAt (takes_of rfl rfl rfl rfl) σ) (by exact (pa_cons (pv 15) (pa_cons (pv 14) (pa_cons (pv 11) pa_nil))))))) (pss_cons (ps_set (i := 17) sc_law.nd rfl (by first | exact Or.inl rfl | exact Or.inr rfl) (by exact (pe_callG (by exact hg) (ok__law_lists T 8) (hr.mono (by first | decide | exact Nat.le_refl _ | omega | (simp only [Nat.add_eq]; omega))) rfl T.g__law_lists T.F__law_lists.kp T.b__law_lists .nil (fun σ => passAt (takes_of rfl rfl rfl rfl) σ) (by exact (pa_cons (pv 1) (pa_cons (pv 14) pa_nil)))))) (pss_cons (ps_set (i := 13) sc_law.nd rfl (by first | exact Or.inl rfl | exact Or.inr rfl) (by exact (pe_callG (by exact hg) (ok__law_bare T 8) (hr.mono (by first | decide | exact Nat.le_refl _ | omega | (simp only [Nat.add_eq]; omega))) rfl T.g__law_bare T.F__law_bare.kp T.b__law_bare .nil (fun σ => passAt (takes_of rfl rfl rfl rfl) σ) (by exact (pa_cons (pv 17) pa_nil))))) (pss_cons (ps_set (i := 18) sc_law.nd rfl (by first | exact Or.inl rfl | exact Or.inr rfl) (by exact (pe_callG (by exact hg) (ok__law_asked T) (hr.mono (by first | decide | exact Nat.le_refl _ | omega | (simp only [Nat.add_eq]; omega))) rfl T.g__law_asked T.F__law_asked.kp T.b__law_asked .nil (fun σ => passAt (takes_of rfl rfl rfl rfl) σ) (by exact (pa_cons (pv 15) (pa_cons (pv 17) (pa_cons (pv 10) pa_nil))))))) (pss_one (ps_if (PW.pt (pw_or (pt_cmpR (op_neYK (K := K) rfl hr.units) (pv 18) (pv 16) (nomark _)) (pw_or (PW.pt (pw_and (pt_truK (K := K) rfl (pe_callB (call_isiK (K := K) rfl) rfl T.n_isinstance rfl (pa_cons (pv 18) (pa_cons (pe_bltn (v := .ty "tuple") rfl T.n_tuple rfl rfl) pa_nil))) (fun _ => rfl)) (pw_and1 (pt_not (pt_truK (K := K) rfl (pe_callG (by exact hg) (ok__law_tuples T 8) (hr.mono (by first | decide | exact Nat.le_refl _ | omega | (simp only [Nat.add_eq]; omega))) rfl T.g__law_tuples T.F__law_tuples.kp T.b__law_tuples .nil (fun σ => passAt (takes_of rfl rfl rfl rfl) σ) (by exact (pa_cons (pv 18) pa_nil))) (fun _ => rfl)))))) (pw_or1 (pt_cmpR (op_neYK (K := K) rfl hr.units) (pe_callG (by exact hg) (ok__law_bare T 8) (hr.mono (by first | decide | exact Nat.le_refl _ | omega | (simp only [Nat.add_eq]; omega))) rfl T.g__law_bare T.F__law_bare.kp T.b__law_bare .nil (fun σ => passAt (takes_of rfl rfl rfl rfl) σ) (by exact (pa_cons (pv 17) pa_nil))) (pv 13) (nomark _)))))) (pss_one (ps_ret (by exact pe_bl))) pss_nil)))))))))) (pss_one (ps_ret (by exact (pe_cmpR (op_eqK (K := K) rfl hr.units) (pe_callG (by exact hg) (ok__law_asked T) (hr.mono (by first | decide | exact Nat.le_refl _ | omega | (simp only [Nat.add_eq]; omega))) rfl T.g__law_asked T.F__law_asked.kp T.b__law_asked .nil (fun σ => passAt (takes_of rfl rfl rfl rfl) σ) (by exact (pa_cons (pv 3) (pa_cons (pe_lst pa_nil) (pa_cons (pv 10) pa_nil))))) (pe_tup pa_nil) (nomark _))))))))))))))), ?_⟩
    refine law_ok (Z := Zo K A) (X := fun cls d _ H => E cls d H) (n := 20) (i := 1) (m := m_law) h rfl (by decide) (fun p c cells => ?_) hm
    have hJ : HandJ (⟨Zo K A, fun h => [(p, hHO c h)], fun cls d _ H => E cls d H⟩ : Jc Hd) p c := ⟨[], [], fun _ => rfl⟩
    exact sv_rho (ρ := [.U, .A p (hF c cells), .U, .U, .U, .U, .U, .U, .U, .U, .U, .U, .U, .U, .U, .U, .U, .U, .U, .U, .U]) rfl (sv_seq (e := fun (v_many_1 : D) => ([.U, .A p (hF c cells), .P v_many_1, .U, .U, .U, .U, .U, .U, .U, .U, .U, .U, .U, .U, .U, .U, .U, .U, .U, .U] : Dm.Env)) (sv_asg (ev_op o2_add (Ev.x ev_int) (Ev.x (ev_callD (dds := []) hJ rfl (ea_cons ev_int ea_nil)))) wkU) (fun v_many_1 => (sv_seq (e := fun (v_firsts_7 : D) => ([.U, .A p (hF c cells), .P v_many_1, .P v_firsts_7, .U, .U, .U, .U, .U, .U, .U, .U, .U, .U, .U, .U, .U, .U, .U, .U, .U] : Dm.Env)) (sv_asg (ev_new (el_lc (ei_r1 (ea_cons (ev_var (i := 2) (d := v_many_1) rfl) ea_nil)) (fun _ _ => (tg_name 19)) (fun t11 _ _ => et_yes) (fun t11 _ _ => (ev_callD (dds := []) (HandJ.add hJ) rfl ea_nil)) (hO := (List.forall_mem_cons.2 ⟨rfl, (List.forall_mem_nil _)⟩)))) wkU) (fun v_firsts_7 => (sv_seq (e := fun (v_sights_16 : List D) => ([.U, .A p (hF c cells), .P v_many_1, .P v_firsts_7, .O v_sights_16, .U, .U, .U, .U, .U, .U, .U, .U, .U, .U, .U, .U, .U, .U, .U, .U] : Dm.Env)) (sv_asgL (el_lst ea_nil) wkU (hi := Nat.le_of_ble_eq_true rfl)) (fun v_sights_16 => (sv_seq (e := fun (s24 : List D) => ([.U, .A p (hF c cells), .P v_many_1, .P v_firsts_7, .O s24, .U, .U, .U, .U, .U, .U, .U, .U, .U, .U, .U, .U, .U, .U, .U, .U] : Dm.Env)) (sv_wk (Wk.keep (Wk.keep (Wk.keep (Wk.keep (Wk.keep (Wk.keep (Wk.keep (Wk.keep (Wk.keep (Wk.keep (Wk.keep (Wk.keep (Wk.keep (Wk.keep (Wk.keep (Wk.keep (Wk.keep (Wk.keep (Wk.keep (Wk.keep (Wk.keep Wk.nil))))))))))))))))))))) (sv_forN (e := fun (s24 : List D) => ([.U, .A p (hF c cells), .P v_many_1, .P v_firsts_7, .O s24, .U, .U, .U, .U, .U, .U, .U, .U, .U, .U, .U, .U, .U, .U, .U, .U] : Dm.Env)) v_sights_16 (ei_r1 (ea_cons (ev_callD (dds := []) hJ rfl (ea_cons ev_int ea_nil)) ea_nil)) wkU (tg_name 5) (fun t25 s24 => (sv_seq (e := fun (v_size_26 : D) => ([.U, .A p (hF c cells), .P v_many_1, .P v_firsts_7, .O s24, .P t25, .P v_size_26, .U, .U, .U, .U, .U, .U, .U, .U, .U, .U, .U, .U, .U, .U] : Dm.Env)) (sv_asg (ev_op o2_ix (Ev.x (ev_new (el_lst (ea_cons (ev_callD (dds := []) hJ rfl (ea_cons ev_int ea_nil)) (ea_cons (ev_callD (dds := []) hJ rfl (ea_cons ev_int ea_nil)) (ea_cons ev_int ea_nil)))))) (Ev.x (ev_callD (dds := []) hJ rfl (ea_cons ev_int ea_nil)))) wkU) (fun v_size_26 => (sv_seq (e := fun (v_pours_here_46 : D) => ([.U, .A p (hF c cells), .P v_many_1, .P v_firsts_7, .O s24, .P t25, .P v_size_26, .P v_pours_here_46, .U, .U, .U, .U, .U, .U, .U, .U, .U, .U, .U, .U, .U] : Dm.Env)) (sv_asg (ev_new (el_lc (ei_r1 (ea_cons (ev_var (i := 6) (d := v_size_26) rfl) ea_nil)) (fun _ _ => (tg_name 9)) (fun t50 _ _ => et_yes) (fun t50 _ _ => (ev_tup (ea_cons (ev_callD (dds := []) (HandJ.add hJ) rfl (ea_cons (ev_var (i := 2) (d := v_many_1) rfl) ea_nil)) (ea_cons (ev_callD (dds := []) (HandJ.add hJ) rfl ea_nil) ea_nil)))) (hO := (List.forall_mem_cons.2 ⟨rfl, (List.forall_mem_nil _)⟩)))) wkU) (fun v_pours_here_46 => (sv_seq (e := fun (v_rows_63 : List D) => ([.U, .A p (hF c cells), .P v_many_1, .P v_firsts_7, .O s24, .P t25, .P v_size_26, .P v_pours_here_46, .O v_rows_63, .U, .U, .U, .U, .U, .U, .U, .U, .U, .U, .U, .U] : Dm.Env)) (sv_asgL (el_lst (ea_cons (ev_b1 o1_tuple (Ev.x (ev_var (i := 3) (d := v_firsts_7) rfl))) ea_nil)) wkU (hi := Nat.le_of_ble_eq_true rfl)) (fun v_rows_63 => (sv_seq (e := fun (s71 : List D) => ([.U, .A p (hF c cells), .P v_many_1, .P v_firsts_7, .O s24, .P t25, .P v_size_26, .P v_pours_here_46, .O s71, .U, .U, .U, .U, .U, .U, .U, .U, .U, .U, .U, .U] : Dm.Env)) (sv_wk (Wk.keep (Wk.keep (Wk.keep (Wk.keep (Wk.keep (Wk.keep (Wk.keep (Wk.keep (Wk.keep (Wk.keep (Wk.keep (Wk.keep (Wk.keep (Wk.keep (Wk.keep (Wk.keep (Wk.keep (Wk.keep (Wk.keep (Wk.keep (Wk.keep Wk.nil))))))))))))))))))))) (sv_forN (e := fun (s71 : List D) => ([.U, .A p (hF c cells), .P v_many_1, .P v_firsts_7, .O s24, .P t25, .P v_size_26, .P v_pours_here_46, .O s71, .U, .U, .U, .U, .U, .U, .U, .U, .U, .U, .U, .U] : Dm.Env)) v_rows_63 (ei_r1 (ea_cons (ev_var (i := 6) (d := v_size_26) rfl) ea_nil)) wkU (tg_name 9) (fun t72 s71 => (sv_seq (e := fun (es73 : List D) => ([.U, .A p (hF c cells), .P v_many_1, .P v_firsts_7, .O s24, .P t25, .P v_size_26, .P v_pours_here_46, .O es73, .P t72, .U, .U, .U, .U, .U, .U, .U, .U, .U, .U, .U] : Dm.Env)) (sv_app (i := 8) rfl (ev_b1 o1_tuple (Ev.x (ev_new (el_lc (ei_r1 (ea_cons (ev_var (i := 2) (d := v_many_1) rfl) ea_nil)) (fun _ _ => (tg_name 19)) (fun t77 _ _ => et_yes) (fun t77 _ _ => (ev_callD (dds := []) (HandJ.add hJ) rfl ea_nil)) (hO := (List.forall_mem_cons.2 ⟨rfl, (List.forall_mem_nil _)⟩)))))) wkU) (fun es73 => (sv_to (g := fun _ => es73) sv_next (fun _ => (Wk.keep (Wk.keep (Wk.keep (Wk.keep (Wk.keep (Wk.keep (Wk.keep (Wk.keep (Wk.keep (Wk.drop (Wk.keep (Wk.keep (Wk.keep (Wk.keep (Wk.keep (Wk.keep (Wk.keep (Wk.keep (Wk.keep (Wk.keep (Wk.keep Wk.nil)))))))))))))))))))))))))))) (fun s71 => (sv_frz (i := 8) (ds := s71) rfl <| (sv_seq (e := fun (es86 : List D) => ([.U, .A p (hF c cells), .P v_many_1, .P v_firsts_7, .O es86, .P t25, .P v_size_26, .P v_pours_here_46, .P (.lst s71), .U, .U, .U, .U, .U, .U, .U, .U, .U, .U, .U, .U] : Dm.Env)) (sv_app (i := 4) rfl (ev_tup (ea_cons (ev_var (i := 7) (d := v_pours_here_46) rfl) (ea_cons (ev_var (i := 8) (d := (.lst s71)) rfl) ea_nil))) wkU) (fun es86 => (sv_to (g := fun _ => es86) sv_next (fun _ => (Wk.keep (Wk.keep (Wk.keep (Wk.keep (Wk.keep (Wk.drop (Wk.drop (Wk.drop (Wk.drop (Wk.keep (Wk.keep (Wk.keep (Wk.keep (Wk.keep (Wk.keep (Wk.keep (Wk.keep (Wk.keep (Wk.keep (Wk.keep (Wk.keep Wk.nil))))))))))))))))))))))))))))))))))))) (fun s24 => (sv_seq (e := fun (v_upto_98 : D) => ([.U, .A p (hF c cells), .P v_many_1, .P v_firsts_7, .O s24, .U, .U, .U, .U, .U, .P v_upto_98, .U, .U, .U, .U, .U, .U, .U, .U, .U, .U] : Dm.Env)) (sv_asg (ev_ifE (et_tru (Ev.x (ev_callD (dds := []) hJ rfl (ea_cons ev_int ea_nil)))) ev_non (ev_callD (dds := []) hJ rfl (ea_cons ev_int ea_nil))) wkU) (fun v_upto_98 => (sv_seq (e := fun (v_limit_107 : D) => ([.U, .A p (hF c cells), .P v_many_1, .P v_firsts_7, .O s24, .U, .U, .U, .U, .U, .P v_upto_98, .P v_limit_107, .U, .U, .U, .U, .U, .U, .U, .U, .U] : Dm.Env)) (sv_asg (ev_ifE (et_test (ev_op o2_is (Ev.x (ev_var (i := 10) (d := v_upto_98) rfl)) (Ev.x ev_non))) ev_int (ev_var (i := 10) (d := v_upto_98) rfl)) wkU) (fun v_limit_107 => (sv_frz (i := 4) (ds := s24) rfl <| (sv_seq (e := fun (v_plain_113 : D) => ([.U, .A p (hF c cells), .P v_many_1, .P v_firsts_7, .P (.lst s24), .U, .U, .U, .U, .U, .P v_upto_98, .P v_limit_107, .P v_plain_113, .U, .U, .U, .U, .U, .U, .U, .U] : Dm.Env)) (sv_asg (ev_callD (dds := []) hJ rfl (ea_cons (ev_var (i := 4) (d := (.lst s24)) rfl) ea_nil)) wkU) (fun v_plain_113 => (sv_seq (e := fun (v_kept_117 : D) => ([.U, .A p (hF c cells), .P v_many_1, .P v_firsts_7, .P (.lst s24), .U, .U, .U, .U, .U, .P v_upto_98, .P v_limit_107, .P v_plain_113, .P v_kept_117, .U, .U, .U, .U, .U, .U, .U] : Dm.Env)) (sv_asg (ev_call (dds := []) (ea_cons (ev_var (i := 12) (d := v_plain_113) rfl) ea_nil)) wkU) (fun v_kept_117 => (sv_ifR (et_or (et_test (ev_op o2_neY (Ev.x (ev_call (dds := []) (ea_cons (ev_callD (dds := []) hJ rfl (ea_cons (ev_var (i := 3) (d := v_firsts_7) rfl) ea_nil)) (ea_cons (ev_var (i := 12) (d := v_plain_113) rfl) (ea_cons (ev_var (i := 10) (d := v_upto_98) rfl) ea_nil))))) (Ev.x (ev_call (dds := []) (ea_cons (ev_var (i := 3) (d := v_firsts_7) rfl) (ea_cons (ev_var (i := 4) (d := (.lst s24)) rfl) (ea_cons (ev_var (i := 11) (d := v_limit_107) rfl) ea_nil))))))) (et_test (ev_op o2_neY (Ev.x (ev_call (dds := []) (ea_cons (ev_var (i := 12) (d := v_plain_113) rfl) ea_nil))) (Ev.x (ev_var (i := 13) (d := v_kept_117) rfl))))) wkU (sv_ret ev_bl wkU) (sv_skip (sv_frD (e := fun (s152 : Unit) => ([.U, .A p (hF c cells), .P v_many_1, .P v_firsts_7, .P (.lst s24), .U, .U, .U, .U, .U, .P v_upto_98, .P v_limit_107, .P v_plain_113, .U, .U, .U, .U, .U, .U, .U, .U] : Dm.Env)) (sv_wk (Wk.keep (Wk.keep (Wk.keep (Wk.keep (Wk.keep (Wk.keep (Wk.keep (Wk.keep (Wk.keep (Wk.keep (Wk.keep (Wk.keep (Wk.keep (Wk.drop (Wk.keep (Wk.keep (Wk.keep (Wk.keep (Wk.keep (Wk.keep (Wk.keep Wk.nil))))))))))))))))))))) (sv_forF (e := fun (s152 : Unit) => ([.U, .A p (hF c cells), .P v_many_1, .P v_firsts_7, .P (.lst s24), .U, .U, .U, .U, .U, .P v_upto_98, .P v_limit_107, .P v_plain_113, .U, .U, .U, .U, .U, .U, .U, .U] : Dm.Env)) () (ei_r1 (ea_cons ev_int ea_nil)) wkU (tg_name 5) (fun t153 s152 => (sv_seq (e := fun (v_spoilt_154 : D) => ([.U, .A p (hF c cells), .P v_many_1, .P v_firsts_7, .P (.lst s24), .P t153, .U, .U, .U, .U, .P v_upto_98, .P v_limit_107, .P v_plain_113, .U, .P v_spoilt_154, .U, .U, .U, .U, .U, .U] : Dm.Env)) (sv_asg (ev_new (el_lc (ei_sq (ev_var (i := 4) (d := (.lst s24)) rfl)) (fun _ _ => (tg_name 20)) (fun t156 _ _ => et_yes) (fun t156 _ _ => (ev_callD (dds := []) (HandJ.add hJ) rfl (ea_cons (ev_var (i := 20) (d := t156) rfl) (ea_cons (ev_var (i := 2) (d := v_many_1) rfl) ea_nil)))) (hO := (List.forall_mem_cons.2 ⟨rfl, (List.forall_mem_nil _)⟩)))) wkU) (fun v_spoilt_154 => (sv_seq (e := fun (s172 : D) => ([.U, .A p (hF c cells), .P v_many_1, .P v_firsts_7, .P (.lst s24), .P t153, .U, .U, .U, .U, .P v_upto_98, .P v_limit_107, .P v_plain_113, .U, .P s172, .U, .U, .U, .U, .U, .U] : Dm.Env)) (sv_if (et_test (ev_op o2_eq (Ev.x (ev_callD (dds := []) hJ rfl (ea_cons ev_int ea_nil))) (Ev.x ev_int))) wkU (sv_seq (e := fun (v_spoilt_173 : D) => ([.U, .A p (hF c cells), .P v_many_1, .P v_firsts_7, .P (.lst s24), .P t153, .U, .U, .U, .U, .P v_upto_98, .P v_limit_107, .P v_plain_113, .U, .P v_spoilt_173, .U, .U, .U, .U, .U, .U] : Dm.Env)) (sv_asg (ev_callD (dds := []) hJ rfl ea_nil) wkU) (fun v_spoilt_173 => (sv_to (g := fun _ => v_spoilt_173) sv_next (fun _ => (Wk.keep (Wk.keep (Wk.keep (Wk.keep (Wk.keep (Wk.keep (Wk.keep (Wk.keep (Wk.keep (Wk.keep (Wk.keep (Wk.keep (Wk.keep (Wk.keep (Wk.keep (Wk.keep (Wk.keep (Wk.keep (Wk.keep (Wk.keep (Wk.keep Wk.nil))))))))))))))))))))))))) (sv_to (g := fun _ => v_spoilt_154) sv_next (fun _ => (Wk.keep (Wk.keep (Wk.keep (Wk.keep (Wk.keep (Wk.keep (Wk.keep (Wk.keep (Wk.keep (Wk.keep (Wk.keep (Wk.keep (Wk.keep (Wk.keep (Wk.keep (Wk.keep (Wk.keep (Wk.keep (Wk.keep (Wk.keep (Wk.keep Wk.nil)))))))))))))))))))))))) (fun s172 => (sv_seq (e := fun (v_begun_here_175 : D) => ([.U, .A p (hF c cells), .P v_many_1, .P v_firsts_7, .P (.lst s24), .P t153, .U, .U, .U, .U, .P v_upto_98, .P v_limit_107, .P v_plain_113, .U, .P s172, .P v_begun_here_175, .U, .U, .U, .U, .U] : Dm.Env)) (sv_asg (ev_callD (dds := []) hJ rfl (ea_cons (ev_var (i := 3) (d := v_firsts_7) rfl) ea_nil)) wkU) (fun v_begun_here_175 => (sv_seq (e := fun (v_due_here_179 : D) => ([.U, .A p (hF c cells), .P v_many_1, .P v_firsts_7, .P (.lst s24), .P t153, .U, .U, .U, .U, .P v_upto_98, .P v_limit_107, .P v_plain_113, .U, .P s172, .P v_begun_here_175, .P v_due_here_179, .U, .U, .U, .U] : Dm.Env)) (sv_asg (ev_call (dds := []) (ea_cons (ev_var (i := 15) (d := v_begun_here_175) rfl) (ea_cons (ev_var (i := 14) (d := s172) rfl) (ea_cons (ev_var (i := 11) (d := v_limit_107) rfl) ea_nil)))) wkU) (fun v_due_here_179 => (sv_seq (e := fun (v_handed_187 : D) => ([.U, .A p (hF c cells), .P v_many_1, .P v_firsts_7, .P (.lst s24), .P t153, .U, .U, .U, .U, .P v_upto_98, .P v_limit_107, .P v_plain_113, .U, .P s172, .P v_begun_here_175, .P v_due_here_179, .P v_handed_187, .U, .U, .U] : Dm.Env)) (sv_asg (ev_callD (dds := []) hJ rfl (ea_cons (ev_var (i := 14) (d := s172) rfl) ea_nil)) wkU) (fun v_handed_187 => (sv_seq (e := fun (v_kept_191 : D) => ([.U, .A p (hF c cells), .P v_many_1, .P v_firsts_7, .P (.lst s24), .P t153, .U, .U, .U, .U, .P v_upto_98, .P v_limit_107, .P v_plain_113, .P v_kept_191, .P s172, .P v_begun_here_175, .P v_due_here_179, .P v_handed_187, .U, .U, .U] : Dm.Env)) (sv_asg (ev_call (dds := []) (ea_cons (ev_var (i := 17) (d := v_handed_187) rfl) ea_nil)) wkU) (fun v_kept_191 => (sv_seq (e := fun (v_found_195 : D) => ([.U, .A p (hF c cells), .P v_many_1, .P v_firsts_7, .P (.lst s24), .P t153, .U, .U, .U, .U, .P v_upto_98, .P v_limit_107, .P v_plain_113, .P v_kept_191, .P s172, .P v_begun_here_175, .P v_due_here_179, .P v_handed_187, .P v_found_195, .U, .U] : Dm.Env)) (sv_asg (ev_call (dds := []) (ea_cons (ev_var (i := 15) (d := v_begun_here_175) rfl) (ea_cons (ev_var (i := 17) (d := v_handed_187) rfl) (ea_cons (ev_var (i := 10) (d := v_upto_98) rfl) ea_nil)))) wkU) (fun v_found_195 => (sv_if (et_or (et_test (ev_op o2_neY (Ev.x (ev_var (i := 18) (d := v_found_195) rfl)) (Ev.x (ev_var (i := 16) (d := v_due_here_179) rfl)))) (et_or (et_and (et_tru (Ev.x (ev_isa .tuple (Ev.x (ev_var (i := 18) (d := v_found_195) rfl))))) (et_not (et_tru (Ev.x (ev_call (dds := []) (ea_cons (ev_var (i := 18) (d := v_found_195) rfl) ea_nil)))))) (et_test (ev_op o2_neY (Ev.x (ev_call (dds := []) (ea_cons (ev_var (i := 17) (d := v_handed_187) rfl) ea_nil))) (Ev.x (ev_var (i := 13) (d := v_kept_191) rfl)))))) wkU (sv_to (g := Fl.rt) (sv_ret ev_bl wkU) (fun _ => rfl)) (sv_to (g := fun _ => Fl.nx ()) sv_next (fun _ => (Wk.keep (Wk.keep (Wk.keep (Wk.keep (Wk.keep (Wk.drop (Wk.keep (Wk.keep (Wk.keep (Wk.keep (Wk.keep (Wk.keep (Wk.keep (Wk.drop (Wk.drop (Wk.drop (Wk.drop (Wk.drop (Wk.drop (Wk.keep (Wk.keep Wk.nil))))))))))))))))))))))))))))))))))))))))) (fun s152 => (sv_ret (ev_op o2_eq (Ev.x (ev_call (dds := []) (ea_cons (ev_var (i := 3) (d := v_firsts_7) rfl) (ea_cons (ev_new (el_lst ea_nil)) (ea_cons (ev_var (i := 10) (d := v_upto_98) rfl) ea_nil))))) (Ev.x (ev_tup ea_nil))) wkU))))))))))))))))))))))
end
end G_spreadhues_k59_whole_sights_checked

set_option Elab.async false
set_option linter.all false
set_option maxRecDepth 100000
set_option maxHeartbeats 2000000
namespace G_spreadhues_k59_whole_sights_checked
open PySem PySem.Spec PyProof.Rows L2 Dm
/-- a whole number within bounds -/
def whl (d : D) (lo hi : Int) : Bool := match d with
  | .int k => decide (lo ≤ k) && decide (k ≤ hi)
  | _ => false
theorem whl_lt {k lo hi : Int} (h : k < lo) : whl (.int k) lo hi = false := by
  show (decide (lo ≤ k) && decide (k ≤ hi)) = false
  rw [decide_eq_false (by omega), Bool.false_and]
theorem whl_ge {k lo hi : Int} (h : ¬ k < lo) : whl (.int k) lo hi = decide (k ≤ hi) := by
  show (decide (lo ≤ k) && decide (k ≤ hi)) = _
  rw [decide_eq_true (by omega), Bool.true_and]
theorem whole_ok (S : Type) {d : D} {lo hi : Int} (h : Pl d) : m_is_whole S [d, .int lo, .int hi] = ret (.bl (whl d lo hi)) := by
  unfold m_is_whole
  simp only [bnd_ret, bnd_bnd, lft_some, List.append_nil]
  cases d with
  | obj c fs => exact h.elim
  | int k =>
    have e1 : oIsA .int (.int k) = some (.bl true) := rfl
    have e2 : oIsA .bool (.int k) = some (.bl false) := rfl
    have e3 : oNis (.int lo) .non = some (.bl true) := rfl
    have e4 : oIs (.int hi) .non = some (.bl false) := rfl
    simp only [e1, e2, e3, e4, lft_some, bnd_ret, tru_bl, asB_bl, Bool.not_true, Bool.false_eq_true, if_false, if_true, oLt_int, oLe_int]
    by_cases c : k < lo
    · rw [decide_eq_true c, if_pos rfl, whl_lt c]
    · rw [decide_eq_false c, if_neg Bool.false_ne_true, whl_ge c]
  | bl b =>
    have e1 : oIsA .int (.bl b) = some (.bl true) := rfl
    have e2 : oIsA .bool (.bl b) = some (.bl true) := rfl
    simp only [e1, e2, lft_some, bnd_ret, tru_bl, Bool.not_true, Bool.false_eq_true, if_false, if_true]
    rfl
  | non => rfl
  | str x => rfl
  | lst ds => rfl
  | tup ds => rfl
  | dct kvs => rfl
theorem isCol_whl (d : D) : isCol d = whl d 0 99 := by cases d <;> rfl
theorem colour_ok (S : Type) {d : D} (h : Pl d) : m_is_colour S [d] = ret (.bl (isCol d)) := by
  unfold m_is_colour
  simp only [bnd_ret, bnd_bnd, lft_some, List.append_nil, whole_ok S h, isCol_whl]
def isSq (d : D) : Bool := (items d).isSome
theorem sq_of {d : D} {l : List D} (h : items d = some l) : isSq d = true := by unfold isSq; rw [h]; rfl
theorem sq_no {d : D} (h : items d = none) : isSq d = false := by unfold isSq; rw [h]; rfl
theorem isas_sq {d : D} (h : Pl d) : oIsAs [.list, .tuple] d = some (.bl (isSq d)) := by
  cases d <;> first | rfl | exact h.elim
theorem sq_ok (S : Type) {d : D} (h : Pl d) : m_is_sequence S [d] = ret (.bl (isSq d)) := by
  unfold m_is_sequence
  simp only [bnd_ret, isas_sq h, lft_some]
def badC (x : D) : Option Unit := if isCol x = true then none else some ()
theorem wrong_ok (S : Type) {d : D} {ds : List D} (hd : items d = some ds) (h : ∀ x ∈ ds, Pl x) : m_wrong_colour S [d] = ret (match fstW badC 0 ds with | none => .non | some q => .int (q.1 : Nat)) := by
  unfold m_wrong_colour
  simp only [bnd_ret, bnd_bnd, lft_some, List.append_nil, hd, Option.map_some]
  rw [forF_fstW (w := badC) (g := fun n _ => .int (n : Nat)) (fun n x hx => ?_)]
  · cases fstW badC 0 ds <;> rfl
  · simp only [colour_ok S (h x hx), bnd_ret, tru_bl, lft_some]
    unfold badC
    cases isCol x <;> rfl
def isCp (d : D) : Bool := match items d with
  | some l => decide (l.length = 2)
  | none => false
theorem couple_ok (S : Type) {d : D} (h : Pl d) : m_is_couple S [d] = ret (.bl (isCp d)) := by
  unfold m_is_couple isCp
  simp only [bnd_ret, bnd_bnd, lft_some, List.append_nil, sq_ok S h, asB_bl]
  cases e : items d with
  | none =>
    rw [sq_no e, if_neg Bool.false_ne_true]
  | some l =>
    rw [sq_of e, if_pos rfl, len_ok e, lft_some, bnd_ret, oEq_int, lft_some]
    dsimp only
    congr 3
    exact propext ⟨fun h => by omega, fun h => by omega⟩
theorem cp_two {d : D} (h : isCp d = true) : ∃ a b, items d = some [a, b] := by
  unfold isCp at h
  cases e : items d with
  | none => rw [e] at h; cases h
  | some l =>
    rw [e] at h
    have h := of_decide_eq_true h
    match l, h with
    | [a, b], _ => exact ⟨a, b, rfl⟩
theorem cp_no {d : D} (h : isCp d = false) : ∀ a b, items d ≠ some [a, b] := fun a b e => by
  unfold isCp at h
  rw [e] at h
  cases h
theorem ix_two {d a b : D} (h : items d = some [a, b]) : oIx d (.int 0) = some a ∧ oIx d (.int 1) = some b := by
  cases d <;> first | (cases h; done) | (cases h; exact ⟨L2.atI_nat (j := 0) rfl, L2.atI_nat (j := 1) rfl⟩)
theorem mixed_ok (S : Type) {a t : Int} (h0 : 0 ≤ a) (h1 : a < 2 ^ 31) (t0 : 0 ≤ t) (t1 : t < 1000) : ∃ r, 0 ≤ r ∧ m__law_mixed S [.int a, .int t] = ret (.int r) := by
  obtain ⟨o0, o1⟩ := fmod_in (i := a * 69621 + t * 7907 + 40503) (j := 2147483647) (by decide)
  obtain ⟨w0, w1⟩ := fmod_in (i := (a * 69621 + t * 7907 + 40503).fmod 2147483647 * (a * 69621 + t * 7907 + 40503).fmod 2147483647 + t * 104723 + (a * 69621 + t * 7907 + 40503).fmod 2147483647 / 131) (j := 2147483629) (by decide)
  generalize ho : (a * 69621 + t * 7907 + 40503).fmod 2147483647 = o at *
  generalize hw : (o * o + t * 104723 + o / 131).fmod 2147483629 = w at *
  obtain ⟨z0, z1⟩ := fmod_in (i := w * 48271 + o / 7) (j := 2147483579) (by decide)
  refine ⟨(w * 48271 + o / 7).fmod 2147483579 / 32, by omega, ?_⟩
  unfold m__law_mixed
  funext s
  simp only [bnd_at, go_ok, ret_at, lft_at, oAdd_int, oIntOf_int, mul_small (i := a) (j := 69621) (by omega) (by decide), mul_small (i := t) (j := 7907) (by omega) (by decide), mod_pos (j := 2147483647) (by decide), ho,
    mul_small (i := o) (j := o) (by omega) (by omega), mul_small (i := t) (j := 104723) (by omega) (by decide), div_pos (j := 131) (by decide) (by decide), mod_pos (j := 2147483629) (by decide), hw,
    mul_small (i := w) (j := 48271) (by omega) (by decide), div_pos (j := 7) (by decide) (by decide), mod_pos (j := 2147483579) (by decide), div_pos (j := 32) (by decide) (by decide)]
theorem take_ok {cells : List Int} {n : Int} (hn : 0 < n) (hn' : n < 2 ^ 99) (hc : cells.length ≤ 63) : Tk cells (m__law_take cells [.int n]) (fun d => ∃ k, d = .int k ∧ 0 ≤ k ∧ k < n) := by
  rintro ⟨pos, rest, total⟩ ⟨p0, p1, r0⟩
  dsimp only at p0 p1 r0
  have hnn : n.natAbs < 2 ^ 100 := by omega
  unfold m__law_take
  have late : ∀ p' : Int, 0 ≤ p' → p' ≤ cells.length → ∀ r' : Int, r' = 0 → ∃ a s', (frD (fun s10 : Unit => bnd (bnd (bnd (hget cells 2) fun x35 => bnd (ret (.int 0)) fun x36 => lft (oGt x35 x36)) fun x37 => lft (asB x37)) fun b38 => if b38 = true then bnd (hget cells 2) fun v_rest_39 => bnd (bnd (bnd (bnd (ret v_rest_39) fun x40 => lft (oIntOf x40)) fun x41 => bnd (ret (.int n)) fun x42 => lft (oDiv x41 x42)) fun x43 => hput 2 x43) fun _ => bnd (bnd (ret v_rest_39) fun x44 => lft (oIntOf x44)) fun x45 => bnd (ret (.int n)) fun x46 => lft (oMod x45 x46) else bnd (bnd (bnd (bnd (bnd (hget cells 3) fun x47 => bnd (ret (.int 1)) fun x48 => lft (oAdd x47 x48)) fun x49 => lft (oIntOf x49)) fun x50 => bnd (ret (.int 2147483587)) fun x51 => lft (oMod x50 x51)) fun x52 => hput 3 x52) fun _ => bnd (bnd (bnd (bnd (hget cells 3) fun x55 => bnd (bnd (hget cells 1) fun x53 => bnd (ret []) fun ds54 => ret (x53 :: ds54)) fun ds56 => ret (x55 :: ds56)) fun ds57 => m__law_mixed Hd (ds57 ++ [])) fun x58 => lft (oIntOf x58)) fun x59 => bnd (ret (.int n)) fun x60 => lft (oMod x59 x60)) (.nx ()) (⟨p', r', total⟩ : Hd)) = .ok a s' ∧ Hok cells s' ∧ ∃ k, a = .int k ∧ 0 ≤ k ∧ k < n := by
    intro p' q0 q1 r' hr'
    subst hr'
    obtain ⟨g0, g1⟩ := fmod_in (i := total + 1) (j := 2147483587) (by decide)
    obtain ⟨r, rp, hr⟩ := mixed_ok Hd (a := (total + 1).fmod 2147483587) (t := p') g0 (by omega) q0 (by omega)
    obtain ⟨v0, v1⟩ := fmod_in (i := r) hn
    refine ⟨.int (r.fmod n), ⟨p', 0, (total + 1).fmod 2147483587⟩, ?_, ⟨q0, q1, Int.le_refl _⟩, _, rfl, v0, v1⟩
    have c4 : decide ((0 : Int) < 0) = false := by decide
    simp only [bnd_at, go_ok, ret_at, lft_at, get0_at, get1_at, get2_at, get3_at, put1_at, put2_at, put3_at, oEq_int, asB_bl, oLen_lst, List.length_map, oLt_int, oGt_int, oAdd_int, pow_18, oIntOf_int, mod_pos (j := 2147483647) (by decide), mod_pos (j := 2147483587) (by decide), mod_pos hn, div_pos2 hn hnn, decide_true, decide_false, ite_t, ite_f, if_true, if_false, Bool.false_eq_true, List.append_nil, frD_rtS, frD_nxS, c4, hr]
  have rest' : ∀ p' : Int, 0 ≤ p' → p' ≤ cells.length → ∀ r' : Int, 0 < r' → ∃ a s', (frD (fun s10 : Unit => bnd (bnd (bnd (hget cells 2) fun x35 => bnd (ret (.int 0)) fun x36 => lft (oGt x35 x36)) fun x37 => lft (asB x37)) fun b38 => if b38 = true then bnd (hget cells 2) fun v_rest_39 => bnd (bnd (bnd (bnd (ret v_rest_39) fun x40 => lft (oIntOf x40)) fun x41 => bnd (ret (.int n)) fun x42 => lft (oDiv x41 x42)) fun x43 => hput 2 x43) fun _ => bnd (bnd (ret v_rest_39) fun x44 => lft (oIntOf x44)) fun x45 => bnd (ret (.int n)) fun x46 => lft (oMod x45 x46) else bnd (bnd (bnd (bnd (bnd (hget cells 3) fun x47 => bnd (ret (.int 1)) fun x48 => lft (oAdd x47 x48)) fun x49 => lft (oIntOf x49)) fun x50 => bnd (ret (.int 2147483587)) fun x51 => lft (oMod x50 x51)) fun x52 => hput 3 x52) fun _ => bnd (bnd (bnd (bnd (hget cells 3) fun x55 => bnd (bnd (hget cells 1) fun x53 => bnd (ret []) fun ds54 => ret (x53 :: ds54)) fun ds56 => ret (x55 :: ds56)) fun ds57 => m__law_mixed Hd (ds57 ++ [])) fun x58 => lft (oIntOf x58)) fun x59 => bnd (ret (.int n)) fun x60 => lft (oMod x59 x60)) (.nx ()) (⟨p', r', total⟩ : Hd)) = .ok a s' ∧ Hok cells s' ∧ ∃ k, a = .int k ∧ 0 ≤ k ∧ k < n := by
    intro p' q0 q1 r' hr'
    obtain ⟨v0, v1⟩ := fmod_in (i := r') hn
    refine ⟨.int (r'.fmod n), ⟨p', r' / n, total⟩, ?_, ⟨q0, q1, Int.ediv_nonneg (by omega) (by omega)⟩, _, rfl, v0, v1⟩
    have c4 : decide ((0 : Int) < r') = true := decide_eq_true hr'
    simp only [bnd_at, go_ok, ret_at, lft_at, get0_at, get1_at, get2_at, get3_at, put1_at, put2_at, put3_at, oEq_int, asB_bl, oLen_lst, List.length_map, oLt_int, oGt_int, oAdd_int, pow_18, oIntOf_int, mod_pos (j := 2147483647) (by decide), mod_pos (j := 2147483587) (by decide), mod_pos hn, div_pos2 hn hnn, decide_true, decide_false, ite_t, ite_f, if_true, if_false, Bool.false_eq_true, List.append_nil, frD_rtS, frD_nxS, c4]
  by_cases c1 : rest = 0
  · subst c1
    by_cases c2 : pos < cells.length
    · obtain ⟨c, hcx⟩ := atI_map p0 c2
      by_cases c3 : c < 1000000000000000000
      · obtain ⟨g0, g1⟩ := fmod_in (i := c) (j := 2147483647) (by decide)
        obtain ⟨r, rp, hr⟩ := mixed_ok Hd (a := c.fmod 2147483647) (t := pos + 1) g0 (by omega) (by omega) (by omega)
        obtain ⟨v0, v1⟩ := fmod_in (i := r) hn
        refine ⟨.int (r.fmod n), ⟨pos + 1, 0, total⟩, ?_, ⟨by show 0 ≤ pos + 1; omega, by show pos + 1 ≤ _; omega, Int.le_refl _⟩, _, rfl, v0, v1⟩
        simp only [bnd_at, go_ok, ret_at, lft_at, get0_at, get1_at, get2_at, get3_at, put1_at, put2_at, put3_at, oEq_int, asB_bl, oLen_lst, List.length_map, oLt_int, oGt_int, oAdd_int, pow_18, oIntOf_int, mod_pos (j := 2147483647) (by decide), mod_pos (j := 2147483587) (by decide), mod_pos hn, div_pos2 hn hnn, decide_true, decide_false, ite_t, ite_f, if_true, if_false, Bool.false_eq_true, List.append_nil, frD_rtS, frD_nxS, hcx, decide_eq_true c2, decide_eq_true c3, hr]
      · obtain ⟨a, s', e, h1, h2⟩ := rest' (pos + 1) (by omega) (by omega) c (by omega)
        refine ⟨a, s', ?_, h1, h2⟩
        rw [← e]
        simp only [bnd_at, go_ok, ret_at, lft_at, get0_at, get1_at, get2_at, get3_at, put1_at, put2_at, put3_at, oEq_int, asB_bl, oLen_lst, List.length_map, oLt_int, oGt_int, oAdd_int, pow_18, oIntOf_int, mod_pos (j := 2147483647) (by decide), mod_pos (j := 2147483587) (by decide), mod_pos hn, div_pos2 hn hnn, decide_true, decide_false, ite_t, ite_f, if_true, if_false, Bool.false_eq_true, List.append_nil, hcx, decide_eq_true c2, decide_eq_false c3]
    · obtain ⟨a, s', e, h1, h2⟩ := late pos p0 p1 0 rfl
      refine ⟨a, s', ?_, h1, h2⟩
      rw [← e]
      simp only [bnd_at, go_ok, ret_at, lft_at, get0_at, get1_at, get2_at, get3_at, put1_at, put2_at, put3_at, oEq_int, asB_bl, oLen_lst, List.length_map, oLt_int, oGt_int, oAdd_int, pow_18, oIntOf_int, mod_pos (j := 2147483647) (by decide), mod_pos (j := 2147483587) (by decide), mod_pos hn, div_pos2 hn hnn, decide_true, decide_false, ite_t, ite_f, if_true, if_false, Bool.false_eq_true, List.append_nil, decide_eq_false c2]
  · obtain ⟨a, s', e, h1, h2⟩ := rest' pos p0 p1 rest (by omega)
    refine ⟨a, s', ?_, h1, h2⟩
    rw [← e]
    simp only [bnd_at, go_ok, ret_at, lft_at, get0_at, get1_at, get2_at, get3_at, put1_at, put2_at, put3_at, oEq_int, asB_bl, oLen_lst, List.length_map, oLt_int, oGt_int, oAdd_int, pow_18, oIntOf_int, mod_pos (j := 2147483647) (by decide), mod_pos (j := 2147483587) (by decide), mod_pos hn, div_pos2 hn hnn, decide_true, decide_false, ite_t, ite_f, if_true, if_false, Bool.false_eq_true, List.append_nil, decide_eq_false c1]
/-- what is met: of depth below k, no list too long, no dict but {0: 1} -/
def gd : Nat → D → Prop
  | 0, _ => False
  | k + 1, d => match d with
    | .lst xs => xs.length < 1000 ∧ ∀ x ∈ xs, gd k x
    | .tup xs => xs.length < 1000 ∧ ∀ x ∈ xs, gd k x
    | .dct kvs => kvs = [(.inl 0, .int 1)]
    | .obj _ _ => False
    | _ => True
theorem gd_pl {k : Nat} {d : D} (h : gd k d) : Pl d := by
  cases k with
  | zero => exact h.elim
  | succ k => cases d <;> first | trivial | exact h
theorem gd_items {k : Nat} {d : D} {l : List D} (h : gd (k + 1) d) (e : items d = some l) : l.length < 1000 ∧ ∀ x ∈ l, gd k x := by
  cases d <;> first | (cases e; done) | (cases e; exact h)
theorem gd_lst {k : Nat} {l : List D} (hl : l.length < 1000) (h : ∀ x ∈ l, gd k x) : gd (k + 1) (.lst l) := ⟨hl, h⟩
theorem gd_tup {k : Nat} {l : List D} (hl : l.length < 1000) (h : ∀ x ∈ l, gd k x) : gd (k + 1) (.tup l) := ⟨hl, h⟩
theorem gd_int {k : Nat} {i : Int} : gd (k + 1) (.int i) := trivial
theorem gd_up {d : D} : ∀ {k j : Nat}, k ≤ j → gd k d → gd j d := by
  intro k
  induction k generalizing d with
  | zero => intro j _ h; exact h.elim
  | succ k ih =>
    intro j hj h
    obtain ⟨j, rfl⟩ : ∃ i, j = i + 1 := ⟨j - 1, by omega⟩
    cases d with
    | lst xs => exact ⟨h.1, fun x hx => ih (by omega) (h.2 x hx)⟩
    | tup xs => exact ⟨h.1, fun x hx => ih (by omega) (h.2 x hx)⟩
    | dct kvs => exact h
    | obj c fs => exact h
    | _ => trivial
mutual
def bareD : D → D
  | .lst xs => .tup (baresD xs)
  | .tup xs => .tup (baresD xs)
  | .non => .non
  | .bl b => .bl b
  | .int i => .int i
  | .str x => .str x
  | .dct kvs => .dct kvs
  | .obj c fs => .obj c fs
def baresD : List D → List D
  | [] => []
  | x :: xs => bareD x :: baresD xs
end
theorem bares_map : ∀ xs : List D, baresD xs = xs.map bareD
  | [] => by rw [baresD]; rfl
  | x :: xs => by rw [baresD, bares_map xs]; rfl
theorem bare_sq {d : D} {l : List D} (h : items d = some l) : bareD d = .tup (l.map bareD) := by
  rw [← bares_map]
  cases d <;> first | (cases h; done) | (cases h; rw [bareD])
theorem items_bare (d : D) : items (bareD d) = (items d).map (·.map bareD) := by
  cases d with
  | lst xs => rw [bareD, bares_map]; rfl
  | tup xs => rw [bareD, bares_map]; rfl
  | _ => rfl
theorem bare_no {d : D} (h : items d = none) : bareD d = d := by
  cases d with
  | lst xs => cases h
  | tup xs => cases h
  | _ => rw [bareD]
theorem bare_ok (S : Type) : ∀ (k : Nat) {d : D}, gd k d → m__law_bare k S [d] = ret (bareD d)
  | 0, _, h => h.elim
  | k + 1, d, h => by
    unfold m__law_bare
    simp only [bnd_ret, bnd_bnd, lft_some, List.append_nil, isas_sq (gd_pl h), tru_bl]
    cases hi : items d with
    | none => rw [sq_no hi, if_neg Bool.false_ne_true, bare_no hi]
    | some l =>
      obtain ⟨hl, hx⟩ := gd_items h hi
      rw [sq_of hi, if_pos rfl, lft_some, bnd_ret, mkL_ok (by omega), lft_some, bnd_ret, lcM_retI (e := fun d => d) (p := fun _ => true) (g := bareD) (ts := l) (by rfl) (fun t ht => rfl) (fun t ht _ => bare_ok S k (hx t ht)), bnd_ret, List.filter_eq_self.2 (fun _ _ => rfl), bare_sq hi]
      rfl
/-- a comprehension over the hand, item by item -/
theorem tk_lcMap {γ τ : Type} {cells : List Int} {un : D → Option τ} {f : τ → MS Hd D} {g : D → γ} {P : D → Prop} : ∀ {ds : List D}, (∀ d ∈ ds, ∃ t, un d = some t ∧ Tk cells (f t) (fun y => g y = g d ∧ P y)) → Tk cells (lcM un (fun _ => ret true) f ds) (fun ys => ys.map g = ds.map g ∧ ∀ y ∈ ys, P y)
  | [], _ => tk_ret ⟨rfl, fun y hy => nomatch hy⟩
  | d :: ds, h => by
    obtain ⟨t, e, ht⟩ := h d (by simp)
    have ih := tk_lcMap (ds := ds) (g := g) (P := P) (fun d hd => h d (by simp [hd]))
    show Tk cells (bnd (lft (un d)) fun t => bnd (nex (ret true)) fun b => if b = true then bnd (nex (f t)) fun y => bnd (lcM un (fun _ => ret true) f ds) fun ys => ret (y :: ys) else lcM un (fun _ => ret true) f ds) _
    rw [e, lft_some, bnd_ret, nex_ret, bnd_ret, if_pos rfl]
    refine tk_bnd (P := fun y => g y = g d ∧ P y) ?_ fun y hy => tk_bnd ih fun ys hys => tk_ret ⟨by rw [List.map_cons, List.map_cons, hys.1, hy.1], fun z hz => ?_⟩
    · intro s hs
      obtain ⟨a, s1, e1, h1, h2⟩ := ht s hs
      exact ⟨a, s1, by unfold nex; rw [e1], h1, h2⟩
    · rcases List.mem_cons.1 hz with q | q
      · rw [q]
        exact hy.2
      · exact hys.2 z q
theorem lists_ok {cells : List Int} (hc : cells.length ≤ 63) : ∀ (k : Nat) {d : D}, gd k d → Tk cells (m__law_lists k cells [d]) (fun e => bareD e = bareD d ∧ gd k e)
  | 0, _, h => h.elim
  | k + 1, d, h => by
    unfold m__law_lists
    simp only [bnd_ret, bnd_bnd, lft_some, List.append_nil, isas_sq (gd_pl h), tru_bl]
    cases hi : items d with
    | none =>
      rw [sq_no hi, Bool.not_false, if_pos rfl]
      exact tk_ret ⟨rfl, h⟩
    | some l =>
      obtain ⟨hl, hx⟩ := gd_items h hi
      rw [sq_of hi, Bool.not_true, if_neg Bool.false_ne_true, len_ok hi, lft_some, bnd_ret, oLt_int, lft_some, bnd_ret, asB_bl, lft_some, bnd_ret, lft_some, bnd_ret, mkL_ok (by omega), lft_some, bnd_ret]
      have fin : ∀ ys : List D, ys.map bareD = l.map bareD → (∀ y ∈ ys, gd k y) → Tk cells (bnd (m__law_take cells [.int 2]) fun a => bnd (lft (tru a)) fun b => if b = true then ret (.lst ys) else lft (oTuple (.lst ys)) : MS Hd D) (fun e => bareD e = bareD d ∧ gd (k + 1) e) := fun ys e1 e2 => by
        have el : ys.length < 1000 := by
          have := congrArg List.length e1
          rw [List.length_map, List.length_map] at this
          omega
        refine tk_bnd (take_ok (n := 2) (by decide) (by decide) hc) fun d hd => ?_
        obtain ⟨j, rfl, j0, j1⟩ := hd
        rw [show tru (.int j) = some (j != 0) from rfl, lft_some, bnd_ret]
        refine tk_ite (fun _ => tk_ret ⟨?_, gd_lst el e2⟩) fun _ => tk_lft rfl ⟨?_, gd_tup el e2⟩
        · rw [bare_sq hi, ← e1, ← bares_map, bareD]
        · rw [bare_sq hi, ← e1, ← bares_map, bareD]
      by_cases c : (l.length : Int) < 40
      · rw [decide_eq_true c, if_pos rfl]
        refine tk_bnd (P := fun d => ∃ ys, d = .lst ys ∧ ys.map bareD = l.map bareD ∧ ∀ y ∈ ys, gd k y) (tk_bnd (tk_lcMap (g := bareD) (P := gd k) fun d hd => ⟨d, rfl, lists_ok hc k (hx d hd)⟩) fun ys hys => tk_ret ⟨ys, rfl, hys⟩) fun d hd => ?_
        obtain ⟨ys, rfl, e1, e2⟩ := hd
        exact fin ys e1 e2
      · rw [decide_eq_false c, if_neg Bool.false_ne_true, bnd_ret]
        exact fin l rfl hx
end G_spreadhues_k59_whole_sights_checked

set_option Elab.async false
set_option linter.all false
set_option maxRecDepth 100000
set_option maxHeartbeats 2000000
namespace G_spreadhues_k59_whole_sights_checked
open PySem PySem.Spec PyProof.Rows L2 Dm
/-- what is wrong with a pour -/
def wordP (m : Int) (p : D) : Option Str := match items p with
  | some [a, b] => if whl a 0 (m - 1) = true then (if whl b 0 99 = true then none else some "colour") else some "mark"
  | _ => some "pour"
def optS : Option Str → D
  | none => .non
  | some s => .str s
theorem wordP_no {m : Int} {p : D} (h : isCp p = false) : wordP m p = some "pour" := by
  unfold wordP
  split
  · rename_i a b e
    exact absurd e (cp_no h a b)
  · rfl
theorem wordP_two {m : Int} {p a b : D} (h : items p = some [a, b]) : wordP m p = (if whl a 0 (m - 1) = true then (if whl b 0 99 = true then none else some ("colour" : Str)) else some ("mark" : Str) : Option Str) := by
  unfold wordP
  rw [h]
theorem wordP_len {m : Int} {p : D} {w : Str} (h : wordP m p = some w) : fmtD (.str w) = true := by
  have : w = "colour" ∨ w = "mark" ∨ w = "pour" := by
    unfold wordP at h
    split at h
    · split at h
      · split at h
        · cases h
        · cases h; exact .inl rfl
      · cases h; exact .inr (.inl rfl)
    · cases h; exact .inr (.inr rfl)
  rcases this with rfl | rfl | rfl <;> decide +kernel
theorem fault_ok (S : Type) {m : Int} {p : D} {k : Nat} (h : gd (k + 1) p) : m__pour_fault S [.int m, p] = ret (optS (wordP m p)) := by
  unfold m__pour_fault
  simp only [bnd_ret, bnd_bnd, lft_some, List.append_nil, couple_ok S (gd_pl h), tru_bl, oSub_int]
  cases e : isCp p with
  | false =>
    rw [Bool.not_false, if_pos rfl, wordP_no e]
    rfl
  | true =>
    obtain ⟨a, b, hi⟩ := cp_two e
    have pa := gd_pl ((gd_items h hi).2 a (by simp))
    have pb := gd_pl ((gd_items h hi).2 b (by simp))
    rw [Bool.not_true, if_neg Bool.false_ne_true, (ix_two hi).1, lft_some, bnd_ret, whole_ok S pa, bnd_ret, tru_bl, lft_some, bnd_ret, wordP_two hi]
    cases whl a 0 (m - 1) with
    | false => rfl
    | true =>
      rw [Bool.not_true, if_neg Bool.false_ne_true, if_pos rfl, (ix_two hi).2, lft_some, bnd_ret, colour_ok S pb, bnd_ret, tru_bl, lft_some, bnd_ret, isCol_whl]
      cases whl b 0 99 <;> rfl
theorem marks_ok (S : Type) {d : D} (h : Pl d) : m_check_marks S [d] = if whl d 1 4 = true then ret d else rse 0 [d] := by
  unfold m_check_marks
  simp only [bnd_ret, bnd_bnd, lft_some, List.append_nil, whole_ok S h, tru_bl]
  cases whl d 1 4 <;> rfl
def its (p : D) : List D := (items p).getD []
theorem its_of {p : D} {l : List D} (h : items p = some l) : its p = l := by unfold its; rw [h]; rfl
theorem wordP_seq {m : Int} {p : D} (h : wordP m p = none) : items p = some (its p) := by
  unfold wordP at h
  split at h
  · rename_i a b e
    rw [its_of e, e]
  · cases h
theorem okScript {n : Nat} {w : Str} (h : n < 1000) (hw : fmtD (.str w) = true) : okD_BadScript [.int (n : Int), .str w] = true := by
  show (fmtD (.str w) && fmtD (.int (n : Int))) = true
  rw [fmt_nat h, hw]
  rfl
theorem script_ok (S : Type) {m : Int} {s : D} (hm : whl (.int m) 1 4 = true) {k : Nat} (h : gd (k + 2) s) : m_check_script S [.int m, s] = match items s with
    | none => rse 1 [.str "many", .int 0]
    | some l => if 12 < l.length then rse 1 [.str "many", .int 0] else match fstW (wordP m) 0 l with
      | some q => rse 1 [.str q.2, .int (q.1 : Nat)]
      | none => ret (.tup (l.map fun p => .tup (its p))) := by
  unfold m_check_script
  have e0 : okD_BadScript [.int 0, .str "many"] = true := okScript (n := 0) (by decide) (by decide +kernel)
  simp only [bnd_ret, bnd_bnd, lft_some, List.append_nil, marks_ok S (d := .int m) trivial, hm, if_true, sq_ok S (gd_pl h), tru_bl]
  cases hi : items s with
  | none =>
    rw [sq_no hi, Bool.not_false, if_pos rfl, bnd_ret, if_pos rfl, if_pos e0]
    rfl
  | some l =>
    rw [sq_of hi, Bool.not_true, if_neg Bool.false_ne_true, len_ok hi, lft_some, bnd_ret, oGt_int, lft_some, bnd_ret, asB_bl, lft_some, bnd_ret]
    dsimp only
    by_cases hl : 12 < l.length
    · rw [decide_eq_true (by omega : (12 : Int) < (l.length : Int)), if_pos rfl, if_pos e0, if_pos hl]
      rfl
    · rw [decide_eq_false (by omega : ¬ (12 : Int) < (l.length : Int)), if_neg Bool.false_ne_true, if_neg hl, Option.map_some, lft_some, bnd_ret]
      have hp := (gd_items h hi).2
      have loop : ∀ (f : D × D → Unit → MS S Unit), (∀ n, ∀ d ∈ l, n < 1000 → f (.int (n : Nat), d) () = match wordP m d with | none => ret () | some x => rse 1 [.str x, .int (n : Nat)]) → ∀ (l' : List D) (n : Nat), (∀ d ∈ l', d ∈ l) → n + l'.length < 1000 →
          forN un2 f (numb n l') () = match fstW (wordP m) n l' with | none => ret () | some q => rse 1 [.str q.2, .int (q.1 : Nat)] := by
        intro f hf l'
        induction l' with
        | nil => intro n _ _; rfl
        | cons d ds ih =>
          intro n hm2 hn
          rw [List.length_cons] at hn
          show bnd (lft (un2 (.tup [.int (n : Int), d]))) (fun t => bnd (f t ()) fun b => forN un2 f (numb (n + 1) ds) b) = _
          rw [show un2 (.tup [.int (n : Int), d]) = some (.int (n : Int), d) from rfl, lft_some, bnd_ret, hf n d (hm2 d (by simp)) (by omega)]
          unfold fstW
          cases hw : wordP m d with
          | none =>
            dsimp only
            rw [bnd_ret]
            exact ih (n + 1) (fun x hx => hm2 x (by simp [hx])) (by omega)
          | some x => rfl
      rw [loop _ (fun n d hd hn => ?_) l 0 (fun d hd => hd) (by omega)]
      · cases hw : fstW (wordP m) 0 l with
        | some q => rfl
        | none =>
          have hn := fstW_none.1 hw
          dsimp only
          rw [bnd_ret, lft_some, bnd_ret, mkL_ok (by omega), lft_some, bnd_ret, lcM_retI (e := fun p => p) (p := fun _ => true) (g := fun p => D.tup (its p)) (ts := l) (by rfl) (fun t ht => rfl) (fun t ht _ => by rw [tuple_ok (wordP_seq (hn t ht)), lft_some]), bnd_ret, List.filter_eq_self.2 (fun _ _ => rfl)]
          rfl
      · simp only [fault_ok S (hp d hd), bnd_ret]
        cases hw : wordP m d with
        | none => rfl
        | some w =>
          have e : oNis (optS (some w)) .non = some (.bl true) := rfl
          have e2 : okD_BadScript [.int (n : Nat), optS (some w)] = true := okScript hn (wordP_len hw)
          rw [e, lft_some, bnd_ret, asB_bl, lft_some, bnd_ret, if_pos rfl, if_pos e2]
          rfl
/-- the number of first colours that is due -/
def dueN (mk : D) (n : Nat) : Bool := match mk with
  | .int m => decide ((n : Int) = m)
  | _ => decide (1 ≤ n) && decide (n ≤ 4)
theorem due_ok (S : Type) {mk : D} {n : Nat} (h : mk = .non ∨ ∃ m, mk = .int m) : m__is_due S [.int (n : Int), mk] = ret (.bl (dueN mk n)) := by
  unfold m__is_due
  simp only [bnd_ret, bnd_bnd, lft_some, List.append_nil]
  rcases h with rfl | ⟨m, rfl⟩
  · have e : oIs .non .non = some (.bl true) := rfl
    simp only [e, lft_some, bnd_ret, asB_bl, if_true, oLe_int, Option.bind_some]
    show _ = ret (D.bl (decide (1 ≤ n) && decide (n ≤ 4)))
    by_cases c : 1 ≤ n
    · rw [decide_eq_true (by omega : (1 : Int) ≤ (n : Int)), if_pos rfl, decide_eq_true c, Bool.true_and]
      congr 2
      exact decide_eq_decide.2 ⟨fun h => by omega, fun h => by omega⟩
    · rw [decide_eq_false (by omega : ¬ (1 : Int) ≤ (n : Int)), if_neg Bool.false_ne_true, decide_eq_false c, Bool.false_and]
  · have e : oIs (.int m) .non = some (.bl false) := rfl
    simp only [e, lft_some, bnd_ret, asB_bl, Bool.false_eq_true, if_false, oEq_int]
    rfl
theorem okFirsts {n : Nat} (h : n < 1000) : okD_BadFirsts [.int (n : Int)] = true := fmt_nat h
theorem firsts_ok (S : Type) {mk f : D} (hm : mk = .non ∨ ∃ m, mk = .int m ∧ whl (.int m) 1 4 = true) {k : Nat} (h : gd (k + 1) f) : m_check_firsts S [mk, f] = match items f with
    | none => rse 2 [.int 0]
    | some l => if dueN mk l.length = true then (match fstW badC 0 l with | some q => rse 2 [.int (q.1 : Nat)] | none => ret (.tup l)) else rse 2 [.int 0] := by
  unfold m_check_firsts
  have e0 : okD_BadFirsts [.int 0] = true := okFirsts (n := 0) (by decide)
  have hd : mk = .non ∨ ∃ m, mk = .int m := hm.imp id fun ⟨m, q, _⟩ => ⟨m, q⟩
  have first : (bnd (lft (oNis mk .non)) fun a => bnd (lft (asB a)) fun a => (if a = true then bnd (m_check_marks S [mk]) fun x => ret () else ret () : MS S Unit)) = ret () := by
    rcases hm with rfl | ⟨m, rfl, h1⟩
    · rfl
    · have e : oNis (.int m) .non = some (.bl true) := rfl
      rw [e, lft_some, bnd_ret, asB_bl, lft_some, bnd_ret, if_pos rfl, marks_ok S (d := .int m) trivial, if_pos h1, bnd_ret]
  have rest : ∀ k : Unit → MS S D, (bnd (lft (oNis mk .non)) fun a => bnd (lft (asB a)) fun a => bnd (if a = true then bnd (m_check_marks S [mk]) fun x => ret () else ret ()) k) = k () := fun k => by
    have := congrArg (fun m => bnd m k) first
    simp only [bnd_bnd, bnd_ret] at this
    exact this
  simp only [bnd_ret, bnd_bnd, lft_some, List.append_nil] at rest ⊢
  rw [rest, sq_ok S (gd_pl h), bnd_ret, tru_bl, lft_some, bnd_ret]
  cases hi : items f with
  | none =>
    rw [sq_no hi, Bool.not_false, if_pos rfl, bnd_ret, if_pos rfl, if_pos e0]
    rfl
  | some l =>
    rw [sq_of hi, Bool.not_true, if_neg Bool.false_ne_true, len_ok hi, lft_some, bnd_ret, due_ok S hd, bnd_ret, tru_bl, lft_some, bnd_ret, bnd_ret]
    dsimp only
    cases hn : dueN mk l.length with
    | false =>
      rw [Bool.not_false, if_pos rfl, if_pos e0, if_neg Bool.false_ne_true]
      rfl
    | true =>
      have hl : l.length < 1000 := by
        rcases hm with rfl | ⟨m, rfl, h1⟩
        · have : (decide (1 ≤ l.length) && decide (l.length ≤ 4)) = true := hn
          rw [Bool.and_eq_true] at this
          have := of_decide_eq_true this.2
          omega
        · have h2 := of_decide_eq_true (show decide ((l.length : Int) = m) = true from hn)
          have h3 : (decide (1 ≤ m) && decide (m ≤ 4)) = true := h1
          rw [Bool.and_eq_true] at h3
          have := of_decide_eq_true h3.2
          omega
      rw [Bool.not_true, if_neg Bool.false_ne_true, if_pos rfl, wrong_ok S hi (fun x hx => gd_pl ((gd_items h hi).2 x hx)), bnd_ret]
      cases hw : fstW badC 0 l with
      | none =>
        have e : oNis .non .non = some (.bl false) := rfl
        dsimp only
        rw [e, lft_some, bnd_ret, asB_bl, lft_some, bnd_ret, if_neg Bool.false_ne_true, tuple_ok hi, lft_some]
      | some q =>
        have e : oNis (.int (q.1 : Nat)) .non = some (.bl true) := rfl
        have hq := fstW_some (k := q.1) (x := q.2) hw
        have e2 : okD_BadFirsts [.int (q.1 : Nat)] = true := okFirsts (by omega)
        dsimp only
        rw [e, lft_some, bnd_ret, asB_bl, lft_some, bnd_ret, if_pos rfl, if_pos e2]
        rfl
end G_spreadhues_k59_whole_sights_checked

set_option Elab.async false
set_option linter.all false
set_option maxRecDepth 100000
set_option maxHeartbeats 2000000
namespace G_spreadhues_k59_whole_sights_checked
open PySem PySem.Spec PyProof.Rows L2 Dm
theorem nat14 {n : Nat} (n1 : 1 ≤ n) (n4 : n ≤ 4) : whl (.int (n : Int)) 1 4 = true := by
  show (decide (1 ≤ (n : Int)) && decide ((n : Int) ≤ 4)) = true
  rw [decide_eq_true (by omega), decide_eq_true (by omega)]
  rfl
def rowBad (n : Nat) (r : D) : Bool := match items r with
  | none => true
  | some l => !(decide (l.length = n)) || (fstW badC 0 l).isSome
theorem isrow_ok (S : Type) {n k : Nat} (n1 : 1 ≤ n) (n4 : n ≤ 4) {r : D} (h : gd (k + 1) r) : m__is_row S [.int (n : Int), r] = ret (.bl (!rowBad n r)) := by
  have e := firsts_ok S (mk := .int (n : Int)) (f := r) (.inr ⟨_, rfl, nat14 n1 n4⟩) h
  unfold m__is_row rowBad
  simp only [bnd_ret, bnd_bnd, lft_some, List.append_nil, e]
  cases hi : items r with
  | none => rfl
  | some l =>
    dsimp only
    rw [show dueN (.int (n : Int)) l.length = decide ((l.length : Int) = (n : Int)) from rfl]
    by_cases c : l.length = n
    · rw [decide_eq_true (by omega : (l.length : Int) = (n : Int)), if_pos rfl, decide_eq_true c]
      cases fstW badC 0 l <;> rfl
    · rw [decide_eq_false (by omega : ¬ (l.length : Int) = (n : Int)), if_neg Bool.false_ne_true, decide_eq_false c]
      rfl
def scriptBad (n : Nat) (a : D) : Bool := match items a with
  | none => true
  | some l => decide (12 < l.length) || (fstW (wordP (n : Int)) 0 l).isSome
def sightW (fs : List D) (t : D) : Option Str := match items t with
  | some [a, b] => if scriptBad fs.length a = true then some "script" else match items b with
    | none => some "rows"
    | some rs => if rs.length = (its a).length + 1 then (if rs.any (rowBad fs.length) = true then some "rows" else if intsD (its (rs.headD .non)) = intsD fs then none else some "firsts") else some "rows"
  | _ => some "sight"
theorem sightW_no {fs : List D} {t : D} (h : isCp t = false) : sightW fs t = some "sight" := by
  unfold sightW
  split
  · rename_i a b e
    exact absurd e (cp_no h a b)
  · rfl
theorem sightW_two {fs : List D} {t a b : D} (h : items t = some [a, b]) : sightW fs t = (if scriptBad fs.length a = true then some ("script" : Str) else match items b with
    | none => some "rows"
    | some rs => if rs.length = (its a).length + 1 then (if rs.any (rowBad fs.length) = true then some "rows" else if intsD (its (rs.headD .non)) = intsD fs then none else some "firsts") else some "rows") := by
  unfold sightW
  rw [h]
theorem bols_map (p : D → Bool) : ∀ l : List D, bolsD (l.map fun d => .bl (p d)) = some (l.map p)
  | [] => rfl
  | d :: l => by
    show (bolsD (l.map fun d => .bl (p d))).map (p d :: ·) = _
    rw [bols_map p l]
    rfl
theorem rowgood {n : Nat} {r : D} (h : rowBad n r = false) : ∃ ns : List Int, items r = some (ns.map D.int) ∧ ns.length = n ∧ ∀ k ∈ ns, 0 ≤ k ∧ k < 100 := by
  unfold rowBad at h
  cases hi : items r with
  | none => rw [hi] at h; cases h
  | some l =>
    rw [hi] at h
    dsimp only at h
    rw [Bool.or_eq_false_iff] at h
    have hl : l.length = n := by
      have := h.1
      rw [Bool.not_eq_false'] at this
      exact of_decide_eq_true this
    have hf : fstW badC 0 l = none := by
      cases e : fstW badC 0 l with
      | none => rfl
      | some q => rw [e] at h; cases h.2
    have hb := fstW_none.1 hf
    have hints : ∀ d ∈ l, ∃ k, d = .int k := fun d hd => by
      have := hb d hd
      cases d <;> first | exact ⟨_, rfl⟩ | cases this
    obtain ⟨ns, rfl⟩ := ints_all hints
    rw [List.length_map] at hl
    refine ⟨ns, rfl, hl, fun k hk => ?_⟩
    have := hb (.int k) (List.mem_map_of_mem hk)
    unfold badC at this
    split at this
    · rename_i c
      have c : (decide (0 ≤ k) && decide (k ≤ 99)) = true := c
      rw [Bool.and_eq_true] at c
      have c1 := of_decide_eq_true c.1
      have c2 := of_decide_eq_true c.2
      omega
    · cases this
theorem scriptTry (S : Type) {n k : Nat} (n1 : 1 ≤ n) (n4 : n ≤ 4) {a : D} (h : gd (k + 2) a) : tryM 4 (bnd (m_check_script S [.int (n : Int), a]) fun x => ret (Fr.nx ())) [(1, fun fs => ret (Fr.rt (.str "script")))] = (ret (if scriptBad n a = true then Fr.rt (.str "script") else Fr.nx ()) : MS S (Fr Unit)) := by
  rw [script_ok S (nat14 n1 n4) h]
  cases hi : items a with
  | none =>
    rw [show scriptBad n a = true from by unfold scriptBad; rw [hi]]
    rfl
  | some l =>
    have sb : scriptBad n a = (decide (12 < l.length) || (fstW (wordP (n : Int)) 0 l).isSome) := by unfold scriptBad; rw [hi]
    rw [sb]
    dsimp only
    by_cases c : 12 < l.length
    · rw [if_pos c, show (decide (12 < l.length) || (fstW (wordP (n : Int)) 0 l).isSome) = true from by rw [decide_eq_true c]; rfl]
      rfl
    · rw [if_neg c, show (decide (12 < l.length) || (fstW (wordP (n : Int)) 0 l).isSome) = (fstW (wordP (n : Int)) 0 l).isSome from by rw [decide_eq_false c]; rfl]
      cases fstW (wordP (n : Int)) 0 l <;> rfl
theorem script_items {n : Nat} {a : D} (h : scriptBad n a = false) : items a = some (its a) := by
  unfold scriptBad at h
  cases hi : items a with
  | none => rw [hi] at h; cases h
  | some l => rw [its_of hi]
theorem sightfault_ok (S : Type) {ns : List Int} {k : Nat} (n1 : 1 ≤ ns.length) (n4 : ns.length ≤ 4) {t : D} (h : gd (k + 3) t) : m__sight_fault S [.tup (ns.map D.int), t] = ret (optS (sightW (ns.map D.int) t)) := by
  unfold m__sight_fault
  simp only [bnd_ret, bnd_bnd, lft_some, List.append_nil, couple_ok S (gd_pl h), tru_bl]
  cases e : isCp t with
  | false =>
    rw [Bool.not_false, if_pos rfl, sightW_no e]
    rfl
  | true =>
    obtain ⟨a, b, hi⟩ := cp_two e
    have ga := (gd_items h hi).2 a (by simp)
    have gb := (gd_items h hi).2 b (by simp)
    have el : oLen (.tup (ns.map D.int)) = some (.int (ns.length : Int)) := by rw [len_ok (show items (.tup (ns.map D.int)) = some _ from rfl), List.length_map]
    rw [Bool.not_true, if_neg Bool.false_ne_true, un2s_of hi, lft_some, bnd_ret, el, lft_some]
    simp only [bnd_ret]
    rw [scriptTry S n1 n4 ga, bnd_ret, sightW_two hi, List.length_map]
    cases hs : scriptBad ns.length a with
    | true => rfl
    | false =>
      have ha := script_items hs
      rw [if_neg Bool.false_ne_true, if_neg Bool.false_ne_true, frD_nx, sq_ok S (gd_pl gb), bnd_ret, tru_bl, lft_some, bnd_ret]
      cases hb : items b with
      | none =>
        rw [sq_no hb, Bool.not_false, if_pos rfl, bnd_ret, if_pos rfl]
        rfl
      | some rs =>
        obtain ⟨rl, rg⟩ := gd_items gb hb
        rw [sq_of hb, Bool.not_true, if_neg Bool.false_ne_true, len_ok hb, lft_some, bnd_ret, len_ok ha, lft_some, bnd_ret, oAdd_int, lft_some, bnd_ret, oNe_int, lft_some, bnd_ret, asB_bl, lft_some, bnd_ret]
        dsimp only
        by_cases c : rs.length = (its a).length + 1
        · have c2 : (rs.length : Int) = ((its a).length : Int) + 1 := by omega
          rw [decide_eq_true c2, Bool.not_true, if_neg Bool.false_ne_true, if_pos c, lft_some, bnd_ret, mkL_ok (by omega), lft_some, bnd_ret, lcM_retI (e := fun d => d) (p := fun _ => true) (g := fun d => D.bl (!rowBad ns.length d)) (ts := rs) (by rfl) (fun t ht => rfl) (fun t ht _ => isrow_ok S n1 n4 (rg t ht)), bnd_ret, List.filter_eq_self.2 (fun _ _ => rfl)]
          have ea : oAll (.lst (rs.map fun d => D.bl (!rowBad ns.length d))) = some (.bl (!rs.any (rowBad ns.length))) := by
            show (bolsD (rs.map fun d => D.bl (!rowBad ns.length d))).map (fun bs => D.bl (bs.all id)) = _
            rw [bols_map]
            show some (D.bl ((rs.map fun d => !rowBad ns.length d).all id)) = _
            congr 2
            rw [List.all_map, List.not_any_eq_all_not]
            rfl
          rw [ea, lft_some, bnd_ret, tru_bl, lft_some, bnd_ret, Bool.not_not]
          cases hr : rs.any (rowBad ns.length) with
          | true => rfl
          | false =>
            rw [if_neg Bool.false_ne_true, if_neg Bool.false_ne_true]
            cases rs with
            | nil => simp at c
            | cons r0 rs =>
              have h0 : rowBad ns.length r0 = false := by
                rw [List.any_cons, Bool.or_eq_false_iff] at hr
                exact hr.1
              obtain ⟨ms, hm, _, _⟩ := rowgood h0
              have ei : oIx b (.int 0) = some r0 := by
                cases b <;> first | (cases hb; done) | (cases hb; exact L2.atI_nat (j := 0) rfl)
              rw [ei, lft_some, bnd_ret, tuple_ok hm, lft_some, bnd_ret, oEq_of (eqD_tup ms ns), lft_some, bnd_ret, asB_bl, lft_some, bnd_ret, show (List.headD (r0 :: rs) .non) = r0 from rfl, its_of hm, intsD_map, intsD_map]
              by_cases q : ms = ns
              · rw [decide_eq_true q, if_pos rfl, if_pos (by rw [q])]
                rfl
              · rw [decide_eq_false q, if_neg Bool.false_ne_true, if_neg (fun z => q (Option.some.inj z))]
                rfl
        · have c2 : ¬ (rs.length : Int) = ((its a).length : Int) + 1 := by omega
          rw [decide_eq_false c2, Bool.not_false, if_pos rfl, if_neg c]
          rfl
end G_spreadhues_k59_whole_sights_checked

set_option Elab.async false
set_option linter.all false
set_option maxRecDepth 100000
set_option maxHeartbeats 2000000
namespace G_spreadhues_k59_whole_sights_checked
open PySem PySem.Spec PyProof.Rows L2 Dm
def firstsN (f : D) : Option Nat := match items f with
  | none => some 0
  | some l => if dueN .non l.length = true then (fstW badC 0 l).map Prod.fst else some 0
theorem firsts_ok2 (S : Type) {f : D} {k : Nat} (h : gd (k + 1) f) : m_check_firsts S [.non, f] = match firstsN f with | some n => rse 2 [.int (n : Nat)] | none => ret (.tup (its f)) := by
  rw [firsts_ok S (.inl rfl) h]
  unfold firstsN
  cases hi : items f with
  | none => rfl
  | some l =>
    dsimp only
    rw [its_of hi]
    cases dueN .non l.length with
    | false => rfl
    | true =>
      rw [if_pos rfl, if_pos rfl]
      cases fstW badC 0 l <;> rfl
theorem cols_ints {l : List D} (h : fstW badC 0 l = none) : ∃ ns : List Int, l = ns.map D.int ∧ ∀ k ∈ ns, 0 ≤ k ∧ k < 100 := by
  have : rowBad l.length (.lst l) = false := by
    unfold rowBad
    show (!(decide (l.length = l.length)) || (fstW badC 0 l).isSome) = false
    rw [h, decide_eq_true rfl]
    rfl
  obtain ⟨ns, e, _, hn⟩ := rowgood this
  exact ⟨ns, Option.some.inj e, hn⟩
theorem firstsN_none {f : D} (h : firstsN f = none) : ∃ ns : List Int, items f = some (ns.map D.int) ∧ 1 ≤ ns.length ∧ ns.length ≤ 4 ∧ ∀ k ∈ ns, 0 ≤ k ∧ k < 100 := by
  unfold firstsN at h
  cases hi : items f with
  | none => rw [hi] at h; cases h
  | some l =>
    rw [hi] at h
    dsimp only at h
    split at h
    · rename_i c
      have hf : fstW badC 0 l = none := by
        cases e : fstW badC 0 l with
        | none => rfl
        | some q => rw [e] at h; cases h
      obtain ⟨ns, rfl, hn⟩ := cols_ints hf
      have c : (decide (1 ≤ (ns.map D.int).length) && decide ((ns.map D.int).length ≤ 4)) = true := c
      rw [Bool.and_eq_true, List.length_map] at c
      exact ⟨ns, rfl, of_decide_eq_true c.1, of_decide_eq_true c.2, hn⟩
    · cases h
theorem bare_ints (ns : List Int) : (ns.map D.int).map bareD = ns.map D.int := by
  rw [List.map_map]
  refine List.map_congr_left fun k _ => ?_
  show bareD (.int k) = .int k
  rw [bareD]
theorem wordP_bare {m : Int} {p : D} (h : wordP m p = none) : bareD p = .tup (its p) := by
  have hi := wordP_seq h
  rw [bare_sq hi]
  unfold wordP at h
  split at h
  · rename_i a b e
    rw [its_of e]
    split at h
    · rename_i c1
      split at h
      · rename_i c2
        have : ∀ {d : D} {lo hi : Int}, whl d lo hi = true → ∃ k, d = .int k := fun {d lo hi} q => by cases d <;> first | exact ⟨_, rfl⟩ | cases q
        obtain ⟨i, rfl⟩ := this c1
        obtain ⟨j, rfl⟩ := this c2
        exact congrArg D.tup (bare_ints [i, j])
      · cases h
    · cases h
  · cases h
theorem row_bare {n : Nat} {r : D} (h : rowBad n r = false) : bareD r = .tup (its r) ∧ items r = some (its r) := by
  obtain ⟨ns, hi, _, _⟩ := rowgood h
  rw [its_of hi, bare_sq hi, bare_ints]
  exact ⟨rfl, hi⟩
theorem script_good {n : Nat} {a : D} (h : scriptBad n a = false) : ∃ l, items a = some l ∧ l.length ≤ 12 ∧ ∀ p ∈ l, wordP (n : Int) p = none := by
  unfold scriptBad at h
  cases hi : items a with
  | none => rw [hi] at h; cases h
  | some l =>
    rw [hi] at h
    dsimp only at h
    rw [Bool.or_eq_false_iff] at h
    have c := of_decide_eq_false h.1
    refine ⟨l, rfl, by omega, (fstW_none (n := 0)).1 ?_⟩
    cases e : fstW (wordP (n : Int)) 0 l with
    | none => rfl
    | some q => rw [e] at h; cases h.2
theorem script_ret (S : Type) {n k : Nat} (n1 : 1 ≤ n) (n4 : n ≤ 4) {a : D} (h : gd (k + 2) a) (hb : scriptBad n a = false) : m_check_script S [.int (n : Int), a] = ret (bareD a) := by
  obtain ⟨l, hi, hl, hw⟩ := script_good hb
  rw [script_ok S (nat14 n1 n4) h, hi]
  dsimp only
  rw [if_neg (by omega), fstW_none.2 hw, bare_sq hi]
  dsimp only
  congr 2
  exact List.map_congr_left fun p hp => (wordP_bare (hw p hp)).symm
theorem sightW_none {fs : List D} {t : D} (h : sightW fs t = none) : ∃ a b rs, items t = some [a, b] ∧ scriptBad fs.length a = false ∧ items b = some rs ∧ ∀ r ∈ rs, rowBad fs.length r = false := by
  cases e : isCp t with
  | false => rw [sightW_no e] at h; cases h
  | true =>
    obtain ⟨a, b, hi⟩ := cp_two e
    rw [sightW_two hi] at h
    cases hs : scriptBad fs.length a with
    | true => rw [hs, if_pos rfl] at h; cases h
    | false =>
      rw [hs, if_neg Bool.false_ne_true] at h
      cases hb : items b with
      | none => rw [hb] at h; cases h
      | some rs =>
        rw [hb] at h
        dsimp only at h
        split at h
        · split at h
          · cases h
          · rename_i hr
            refine ⟨a, b, rs, hi, hs, hb, fun r hrr => ?_⟩
            cases q : rowBad fs.length r with
            | false => rfl
            | true => exact absurd (List.any_eq_true.2 ⟨r, hrr, q⟩) hr
        · cases h
theorem sightW_fmt {fs : List D} {t : D} {w : Str} (h : sightW fs t = some w) : fmtD (.str w) = true := by
  have : w = "sight" ∨ w = "script" ∨ w = "rows" ∨ w = "firsts" := by
    unfold sightW at h
    split at h
    · split at h
      · cases h; exact .inr (.inl rfl)
      · split at h
        · cases h; exact .inr (.inr (.inl rfl))
        · split at h
          · split at h
            · cases h; exact .inr (.inr (.inl rfl))
            · split at h
              · cases h
              · cases h; exact .inr (.inr (.inr rfl))
          · cases h; exact .inr (.inr (.inl rfl))
    · cases h; exact .inl rfl
  rcases this with rfl | rfl | rfl | rfl <;> decide +kernel
theorem forN_fstB {S β : Type} {N : Nat} {w : D → Option β} {c : Nat} {g : Nat → β → List D} {f : D × D → Unit → MS S Unit} : ∀ {ds : List D} {n : Nat}, n + ds.length ≤ N → (∀ n, n < N → ∀ d ∈ ds, f (.int (n : Nat), d) () = match w d with | none => ret () | some x => rse c (g n x)) →
    forN un2 f (numb n ds) () = match fstW w n ds with | none => ret () | some q => rse c (g q.1 q.2)
  | [], _, _, _ => rfl
  | d :: ds, n, hN, h => by
    rw [List.length_cons] at hN
    show bnd (lft (un2 (.tup [.int (n : Int), d]))) (fun t => bnd (f t ()) fun b => forN un2 f (numb (n + 1) ds) b) = _
    rw [show un2 (.tup [.int (n : Int), d]) = some (.int (n : Int), d) from rfl, lft_some, bnd_ret, h n (by omega) d (by simp)]
    cases hw : w d with
    | none =>
      rw [fst_miss hw]
      exact forN_fstB (by omega) fun n hn d hd => h n hn d (by simp [hd])
    | some x =>
      rw [fst_hit hw]
      rfl
def sightsE (f s : D) (lim : Int) : Option (Nat × Str) := match items s with
  | none => some (0, "many")
  | some l => if lim < (l.length : Int) then some (0, "many") else fstW (sightW (its f)) 0 l
theorem checksights_ok (S : Type) {f s : D} {lim : Int} {j k : Nat} (hf : gd (j + 1) f) (hs : gd (k + 4) s) : m_check_sights S [f, s, .int lim] = match firstsN f with
    | some n => rse 2 [.int (n : Nat)]
    | none => match sightsE f s lim with
      | some q => rse 3 [.str q.2, .int (q.1 : Nat)]
      | none => ret (bareD s) := by
  unfold m_check_sights
  have e0 : okD_BadSight [.int 0, .str (Str.ofString "many")] = true := by
    show (fmtD (.str (Str.ofString "many")) && fmtD (.int ((0 : Nat) : Int))) = true
    rw [fmt_nat (by decide), Bool.and_true]
    decide +kernel
  simp only [bnd_ret, bnd_bnd, lft_some, List.append_nil, firsts_ok2 S hf]
  cases hn : firstsN f with
  | some n => rfl
  | none =>
    obtain ⟨ns, hi, n1, n4, hc⟩ := firstsN_none hn
    dsimp only
    rw [bnd_ret, its_of hi]
    simp only [sq_ok S (gd_pl hs), bnd_ret, tru_bl, lft_some]
    unfold sightsE
    rw [its_of hi]
    cases hsi : items s with
    | none =>
      rw [sq_no hsi, Bool.not_false, if_pos rfl, bnd_ret, if_pos rfl, if_pos e0]
      rfl
    | some l =>
      obtain ⟨ll, lg⟩ := gd_items hs hsi
      rw [sq_of hsi, Bool.not_true, if_neg Bool.false_ne_true, len_ok hsi, lft_some, bnd_ret, oGt_int, lft_some, bnd_ret, asB_bl, lft_some, bnd_ret]
      dsimp only
      by_cases c : lim < (l.length : Int)
      · rw [decide_eq_true c, if_pos rfl, if_pos e0, if_pos c]
        rfl
      · rw [decide_eq_false c, if_neg Bool.false_ne_true, if_neg c, Option.map_some, lft_some, bnd_ret]
        rw [forN_fstB (N := 1000) (w := sightW (ns.map D.int)) (c := 3) (g := fun n x => [.str x, .int (n : Nat)]) (by omega) (fun n hnn d hd => ?_)]
        · cases hw : fstW (sightW (ns.map D.int)) 0 l with
          | some q => rfl
          | none =>
            have hw := fstW_none.1 hw
            dsimp only
            rw [bnd_ret, lft_some, bnd_ret, mkL_ok (by omega), lft_some, bnd_ret]
            rw [lcM_retI (e := fun d => (un2s d).getD (.non, .non)) (p := fun _ => true) (g := bareD) (ts := l) (List.map_congr_left fun d hd => ?_) (fun t ht => rfl) (fun t ht _ => ?_), bnd_ret, List.filter_eq_self.2 (fun _ _ => rfl), bare_sq hsi]
            · rfl
            · obtain ⟨a, b, rs, h1, _, _, _⟩ := sightW_none (hw d hd)
              rw [un2s_of h1]
              rfl
            · obtain ⟨a, b, rs, h1, h2, h3, h4⟩ := sightW_none (hw t ht)
              have ga := (gd_items (lg t ht) h1).2 a (by simp)
              have gb := (gd_items (lg t ht) h1).2 b (by simp)
              obtain ⟨rl, rg⟩ := gd_items gb h3
              rw [List.length_map] at h2 h4
              have el : oLen (.tup (ns.map D.int)) = some (.int (ns.length : Int)) := by rw [len_ok (show items (.tup (ns.map D.int)) = some _ from rfl), List.length_map]
              rw [un2s_of h1]
              dsimp only [Option.getD]
              rw [el, lft_some, bnd_ret, script_ret S n1 n4 ga h2, bnd_ret, h3, lft_some, bnd_ret, mkL_ok (by omega), lft_some, bnd_ret, lcM_retI (e := fun d => d) (p := fun _ => true) (g := bareD) (ts := rs) (by rfl) (fun t ht => rfl) (fun r hr _ => by rw [tuple_ok (row_bare (h4 r hr)).2, lft_some, (row_bare (h4 r hr)).1]), bnd_ret, List.filter_eq_self.2 (fun _ _ => rfl), tuple_ok (show items (.lst (rs.map bareD)) = some _ from rfl), lft_some, bnd_ret, mk2, bare_sq h1, List.map_cons, List.map_cons, List.map_nil, bare_sq h3]
              rfl
        · simp only [sightfault_ok S n1 n4 (lg d hd), bnd_ret]
          cases hw : sightW (ns.map D.int) d with
          | none => rfl
          | some x =>
            have e1 : oNis (optS (some x)) .non = some (.bl true) := rfl
            have e2 : okD_BadSight [.int (n : Nat), optS (some x)] = true := by
              show (fmtD (.str x) && fmtD (.int (n : Int))) = true
              rw [fmt_nat hnn, sightW_fmt hw]
              rfl
            rw [e1, lft_some, bnd_ret, asB_bl, lft_some, bnd_ret, if_pos rfl, if_pos e2]
            rfl
/-- what is due -/
def resD (f s : D) (lim : Int) : D := match firstsN f with
  | some n => .lst [.str "firsts", .int (n : Nat)]
  | none => match sightsE f s lim with
    | some q => .lst [.str "sight", .int (q.1 : Nat), .str q.2]
    | none => bareD s
theorem asked_ok (S : Type) {f s up : D} {lim : Int} {j k : Nat} (hf : gd (j + 1) f) (hs : gd (k + 4) s) (hu : (up = .non ∧ lim = 3) ∨ up = .int lim) : m__law_asked S [f, s, up] = ret (resD f s lim) := by
  unfold m__law_asked resD
  have t2 : ([f, s].length = 2 ∧ [up].length = 1) = True := by simp
  have body : ∀ {α : Type} (k : D → MS S α), (bnd (lft (oIs up .non)) fun a => bnd (lft (asB a)) fun a => bnd (if a = true then m_check_sights S ([f, s] ++ [.int 3]) else bnd (lft (oGt up (.int 1))) fun a => bnd (lft (asB a)) fun b => if b = true then m_check_sights S [f, s, up] else if [f, s].length = 2 ∧ [up].length = 1 then m_check_sights S ([f, s] ++ [up]) else stk) k) = bnd (m_check_sights S [f, s, .int lim]) k := fun k => by
    rcases hu with ⟨rfl, rfl⟩ | rfl
    · rfl
    · rw [show oIs (.int lim) .non = some (.bl false) from rfl, lft_some, bnd_ret, asB_bl, lft_some, bnd_ret, if_neg Bool.false_ne_true, oGt_int, lft_some, bnd_ret, asB_bl, lft_some, bnd_ret]
      cases decide ((1 : Int) < lim) with
      | true => rfl
      | false => rw [if_neg Bool.false_ne_true, if_pos ⟨rfl, rfl⟩]; rfl
  simp only [bnd_ret, bnd_bnd, lft_some, List.append_nil] at body ⊢
  rw [body, checksights_ok S hf hs]
  cases firstsN f with
  | some n => rfl
  | none =>
    dsimp only
    cases sightsE f s lim with
    | some q => rfl
    | none => rfl
end G_spreadhues_k59_whole_sights_checked

set_option Elab.async false
set_option linter.all false
set_option maxRecDepth 100000
set_option maxHeartbeats 2000000
namespace G_spreadhues_k59_whole_sights_checked
open PySem PySem.Spec PyProof.Rows L2 Dm
theorem number_ok (S : Type) {d : D} {hi : Int} (h : Pl d) : m__law_number S [d, .int hi] = ret (.bl (whl d 0 hi)) := by
  unfold m__law_number
  simp only [bnd_ret, bnd_bnd, lft_some, List.append_nil]
  cases d with
  | obj c fs => exact h.elim
  | int k =>
    have e1 : oIsA .int (.int k) = some (.bl true) := rfl
    have e2 : oIsA .bool (.int k) = some (.bl false) := rfl
    simp only [e1, e2, lft_some, bnd_ret, asB_bl, Bool.not_false, if_true, oLe_int, Option.bind_some]
    by_cases c : k < 0
    · rw [decide_eq_false (by omega : ¬ (0 : Int) ≤ k), if_neg Bool.false_ne_true, whl_lt c]
    · rw [decide_eq_true (by omega : (0 : Int) ≤ k), if_pos rfl, whl_ge c]
  | bl b => rfl
  | non => rfl
  | str x => rfl
  | lst ds => rfl
  | tup ds => rfl
  | dct kvs => rfl
theorem bad_filter {β γ : Type} {w : D → Option β} {p : D → Bool} {g : D → γ} {l : List D} (h : ∀ d ∈ l, p d = (w d).isSome) : ((l.filter p).map g).isEmpty = !(fstW w 0 l).isSome := by
  cases e : fstW w 0 l with
  | none =>
    have e := fstW_none.1 e
    rw [List.filter_eq_nil_iff.2 (fun d hd hp => by rw [h d hd, e d hd] at hp; cases hp)]
    rfl
  | some q =>
    obtain ⟨_, _, d, hd, hw⟩ := fstW_some (k := q.1) (x := q.2) e
    have hm : d ∈ l.filter p := List.mem_filter.2 ⟨hd, by rw [h d hd, hw]; rfl⟩
    cases hf : l.filter p with
    | nil => rw [hf] at hm; cases hm
    | cons x xs => rfl
theorem bad_whl (d : D) : (!whl d 0 99) = (badC d).isSome := by
  unfold badC
  rw [isCol_whl]
  cases whl d 0 99 <;> rfl
theorem hues_ok (S : Type) {r : D} {n k : Nat} (h : gd (k + 1) r) : m__law_hues S [r, .int (n : Int)] = ret (.bl (!rowBad n r)) := by
  unfold m__law_hues rowBad
  simp only [bnd_ret, bnd_bnd, lft_some, List.append_nil, isas_sq (gd_pl h), tru_bl]
  cases hi : items r with
  | none => rw [sq_no hi, Bool.not_false, if_pos rfl, bnd_ret, if_pos rfl]; rfl
  | some l =>
    obtain ⟨ll, lg⟩ := gd_items h hi
    rw [sq_of hi, Bool.not_true, if_neg Bool.false_ne_true, len_ok hi, lft_some, bnd_ret, oNe_int, lft_some, bnd_ret, asB_bl, lft_some, bnd_ret]
    dsimp only
    by_cases c : l.length = n
    · rw [decide_eq_true (by omega : (l.length : Int) = (n : Int)), Bool.not_true, if_neg Bool.false_ne_true, lft_some, bnd_ret, mkL_ok (by omega), lft_some, bnd_ret, lcM_retI (e := fun d => d) (p := fun d => !whl d 0 99) (g := fun _ => D.int 1) (ts := l) (by rfl) (fun t ht => by rw [number_ok S (gd_pl (lg t ht)), bnd_ret, tru_bl, lft_some, bnd_ret]) (fun t ht _ => rfl), bnd_ret]
      have e := bad_filter (w := badC) (p := fun d => !whl d 0 99) (g := fun _ => D.int 1) (l := l) fun d _ => bad_whl d
      show lft ((some (!((l.filter fun d => !whl d 0 99).map fun _ => D.int 1).isEmpty)).map fun b => D.bl !b) = _
      rw [e, decide_eq_true c]
      show ret (D.bl (!!!(fstW badC 0 l).isSome)) = ret (D.bl (!(!true || (fstW badC 0 l).isSome)))
      cases (fstW badC 0 l).isSome <;> rfl
    · rw [decide_eq_false (by omega : ¬ (l.length : Int) = (n : Int)), Bool.not_false, if_pos rfl, decide_eq_false c]
      rfl
theorem forF_hit1 {S β : Type} {w : D → Option β} {g : β → D} {f : D → Unit → MS S (Fl Unit Unit)} : ∀ {ds : List D} {n : Nat}, (∀ d ∈ ds, f d () = ret (hitL g (w d))) → forF un1 f ds () = ret (hitF (fun _ => g) (fstW w n ds))
  | [], _, _ => rfl
  | d :: ds, n, h => by
    unfold forF
    rw [show un1 d = some d from rfl, lft_some, bnd_ret, h d (by simp)]
    cases hw : w d with
    | none =>
      rw [fst_miss hw]
      exact forF_hit1 fun d hd => h d (by simp [hd])
    | some x =>
      rw [fst_hit hw]
      rfl
theorem pours_ok (S : Type) {a : D} {n k : Nat} (h : gd (k + 2) a) : m__law_pours S [a, .int (n : Int)] = ret (.bl (!scriptBad n a)) := by
  unfold m__law_pours scriptBad
  simp only [bnd_ret, bnd_bnd, lft_some, List.append_nil, isas_sq (gd_pl h), tru_bl]
  cases hi : items a with
  | none => rw [sq_no hi, Bool.not_false, if_pos rfl, bnd_ret, if_pos rfl]; rfl
  | some l =>
    obtain ⟨ll, lg⟩ := gd_items h hi
    rw [sq_of hi, Bool.not_true, if_neg Bool.false_ne_true, len_ok hi, lft_some, bnd_ret, oGt_int, lft_some, bnd_ret, asB_bl, lft_some, bnd_ret]
    dsimp only
    by_cases c : 12 < l.length
    · rw [decide_eq_true (by omega : (12 : Int) < (l.length : Int)), if_pos rfl, decide_eq_true c]
      rfl
    · rw [decide_eq_false (by omega : ¬ (12 : Int) < (l.length : Int)), if_neg Bool.false_ne_true, decide_eq_false c, Bool.false_or, lft_some, bnd_ret]
      rw [forF_hit1 (w := wordP (n : Int)) (g := fun _ => .bl false) (n := 0) (fun p hp => ?_), bnd_ret]
      · cases fstW (wordP (n : Int)) 0 l <;> rfl
      · have gp := lg p hp
        simp only [isas_sq (gd_pl gp), lft_some, bnd_ret, tru_bl]
        cases e : isCp p with
        | false =>
          rw [wordP_no e]
          cases hpi : items p with
          | none => rw [sq_no hpi]; rfl
          | some q =>
            have hq : q.length ≠ 2 := by
              unfold isCp at e
              rw [hpi] at e
              exact of_decide_eq_false e
            rw [sq_of hpi, Bool.not_true, if_neg Bool.false_ne_true, len_ok hpi, lft_some, bnd_ret, oNe_int, lft_some, bnd_ret, asB_bl, lft_some, bnd_ret, decide_eq_false (by omega : ¬ (q.length : Int) = 2), Bool.not_false, if_pos rfl]
            rfl
        | true =>
          obtain ⟨x, y, hpi⟩ := cp_two e
          have gx := (gd_items gp hpi).2 x (by simp)
          have gy := (gd_items gp hpi).2 y (by simp)
          have e2 : oNe (.int (([x, y] : List D).length : Nat)) (.int 2) = some (.bl false) := by rw [oNe_int]; rfl
          rw [sq_of hpi, Bool.not_true, if_neg Bool.false_ne_true, len_ok hpi, lft_some, bnd_ret, e2, lft_some, bnd_ret, asB_bl, lft_some, bnd_ret, if_neg Bool.false_ne_true, (ix_two hpi).1, lft_some, bnd_ret, oSub_int, lft_some, bnd_ret, number_ok S (gd_pl gx), bnd_ret, tru_bl, lft_some, bnd_ret, wordP_two hpi]
          cases whl x 0 ((n : Int) - 1) with
          | false => rfl
          | true =>
            rw [Bool.not_true, if_neg Bool.false_ne_true, if_pos rfl, (ix_two hpi).2, lft_some, bnd_ret, number_ok S (gd_pl gy), bnd_ret, tru_bl, lft_some, bnd_ret, bnd_ret]
            cases whl y 0 99 <;> rfl
end G_spreadhues_k59_whole_sights_checked

set_option Elab.async false
set_option linter.all false
set_option maxRecDepth 100000
set_option maxHeartbeats 2000000
namespace G_spreadhues_k59_whole_sights_checked
open PySem PySem.Spec PyProof.Rows L2 Dm
theorem bad_unit {d : D} : badC d = if whl d 0 99 = true then none else some () := by
  unfold badC
  rw [isCol_whl]
def sightL (n : Nat) (w : Str) : D := .lst [.str "sight", .int (n : Nat), .str w]
/-- one turn of the law's walk over the sights -/
theorem turn_ok (S : Type) {f t : D} {ns : List Int} {i k : Nat} (hf : items f = some (ns.map D.int)) (h : gd (k + 3) t) : (bnd (lft (oIsAs [Ty6.list, Ty6.tuple] t)) fun a => bnd (lft (tru a)) fun a => bnd (if (!a) = true then ret true else bnd (lft (oLen t)) fun a => bnd (lft (oNe a (D.int 2))) fun x6 => lft (asB x6)) fun b75 => if b75 = true then bnd (lft (mkL [D.str (Str.ofString "sight"), .int (i : Int), D.str (Str.ofString "sight")])) fun a => ret (Fx.rt (D.lst a)).up else bnd (lft (oIx t (D.int 0))) fun a => bnd (ret (D.int ((ns.map D.int).length : Int))) fun a_1 => bnd (m__law_pours S [a, a_1]) fun a => bnd (lft (tru a)) fun a => if (!a) = true then bnd (lft (mkL [D.str (Str.ofString "sight"), .int (i : Int), D.str (Str.ofString "script")])) fun a => ret (Fx.rt (D.lst a)).up else bnd (lft (oIx t (D.int 1))) fun v_rows_103 => bnd (lft (oIsAs [Ty6.list, Ty6.tuple] v_rows_103)) fun a => bnd (lft (tru a)) fun a => bnd (if (!a) = true then ret true else bnd (lft (oLen v_rows_103)) fun a => bnd (lft (oIx t (D.int 0))) fun a_2 => bnd (lft (oLen a_2)) fun a_3 => bnd (lft (oAdd a_3 (D.int 1))) fun a_4 => bnd (lft (oNe a a_4)) fun x6 => lft (asB x6)) fun b119 => if b119 = true then bnd (lft (mkL [D.str (Str.ofString "sight"), .int (i : Int), D.str (Str.ofString "rows")])) fun a => ret (Fx.rt (D.lst a)).up else bnd (lft (items v_rows_103)) fun a => bnd (lft (mkL a)) fun a => bnd (lcM un1 (fun t129 => bnd (ret (D.int ((ns.map D.int).length : Int))) fun a => bnd (m__law_hues S [t129, a]) fun a => bnd (lft (tru a)) fun b10 => ret !b10) (fun t129 => ret (D.int 1)) a) fun a => bnd (lft (tru (D.lst a))) fun b142 => if b142 = true then bnd (lft (mkL [D.str (Str.ofString "sight"), .int (i : Int), D.str (Str.ofString "rows")])) fun a => ret (Fx.rt (D.lst a)).up else bnd (lft (oIx v_rows_103 (D.int 0))) fun a => bnd (lft (oTuple a)) fun a => bnd (lft (oTuple f)) fun a_2 => bnd (lft (oNe a a_2)) fun a => bnd (lft (asB a)) fun b158 => if b158 = true then bnd (lft (mkL [D.str (Str.ofString "sight"), .int (i : Int), D.str (Str.ofString "firsts")])) fun a => ret (Fl.rt (D.lst a)) else ret (Fl.nx ()) : MS S (Fl Unit Unit)) = ret (hitL (sightL i) (sightW (ns.map D.int) t)) := by
  simp only [List.length_map]
  rw [isas_sq (gd_pl h), lft_some, bnd_ret, tru_bl, lft_some, bnd_ret]
  cases e : isCp t with
  | false =>
    rw [sightW_no e]
    cases hi : items t with
    | none => rw [sq_no hi]; rfl
    | some q =>
      have hq : q.length ≠ 2 := by
        unfold isCp at e
        rw [hi] at e
        exact of_decide_eq_false e
      rw [sq_of hi, Bool.not_true, if_neg Bool.false_ne_true, len_ok hi, lft_some, bnd_ret, oNe_int, lft_some, bnd_ret, asB_bl, lft_some, bnd_ret, decide_eq_false (by omega : ¬ (q.length : Int) = 2), Bool.not_false, if_pos rfl]
      rfl
  | true =>
    obtain ⟨a, b, hi⟩ := cp_two e
    have ga := (gd_items h hi).2 a (by simp)
    have gb := (gd_items h hi).2 b (by simp)
    have e2 : oNe (.int (([a, b] : List D).length : Nat)) (.int 2) = some (.bl false) := by rw [oNe_int]; rfl
    rw [sq_of hi, Bool.not_true, if_neg Bool.false_ne_true, len_ok hi, lft_some, bnd_ret, e2, lft_some, bnd_ret, asB_bl, lft_some, bnd_ret, if_neg Bool.false_ne_true, (ix_two hi).1, lft_some, bnd_ret, bnd_ret, pours_ok S ga, bnd_ret, tru_bl, lft_some, bnd_ret, Bool.not_not, sightW_two hi, List.length_map]
    cases hs : scriptBad ns.length a with
    | true => rfl
    | false =>
      have ha := script_items hs
      rw [if_neg Bool.false_ne_true, if_neg Bool.false_ne_true, (ix_two hi).2, lft_some, bnd_ret, isas_sq (gd_pl gb), lft_some, bnd_ret, tru_bl, lft_some, bnd_ret]
      cases hb : items b with
      | none => rw [sq_no hb]; rfl
      | some rs =>
        obtain ⟨rl, rg⟩ := gd_items gb hb
        rw [sq_of hb, Bool.not_true, if_neg Bool.false_ne_true, len_ok hb, lft_some, bnd_ret, lft_some, bnd_ret, len_ok ha, lft_some, bnd_ret, oAdd_int, lft_some, bnd_ret, oNe_int, lft_some, bnd_ret, asB_bl, lft_some, bnd_ret]
        dsimp only
        by_cases c : rs.length = (its a).length + 1
        · have c2 : (rs.length : Int) = ((its a).length : Int) + 1 := by omega
          rw [decide_eq_true c2, Bool.not_true, if_neg Bool.false_ne_true, if_pos c, bnd_ret, mkL_ok (by omega), lft_some, bnd_ret, lcM_retI (e := fun d => d) (p := rowBad ns.length) (g := fun _ => D.int 1) (ts := rs) (by rfl) (fun t ht => by rw [bnd_ret, hues_ok S (rg t ht), bnd_ret, tru_bl, lft_some, bnd_ret, Bool.not_not]) (fun t ht _ => rfl), bnd_ret]
          have et : tru (.lst ((rs.filter (rowBad ns.length)).map fun _ => D.int 1)) = some (rs.any (rowBad ns.length)) := by
            show some (!((rs.filter (rowBad ns.length)).map fun _ => D.int 1).isEmpty) = _
            congr 1
            cases q : rs.any (rowBad ns.length) with
            | true =>
              obtain ⟨x, hx, hp⟩ := List.any_eq_true.1 q
              have hm : x ∈ rs.filter (rowBad ns.length) := List.mem_filter.2 ⟨hx, hp⟩
              cases hf : rs.filter (rowBad ns.length) with
              | nil => rw [hf] at hm; cases hm
              | cons y ys => rfl
            | false =>
              have hn : ∀ x ∈ rs, ¬ rowBad ns.length x = true := fun x hx hp => by
                rw [List.any_eq_true.2 ⟨x, hx, hp⟩] at q
                cases q
              rw [List.filter_eq_nil_iff.2 hn]
              rfl
          rw [et, lft_some, bnd_ret]
          cases hr : rs.any (rowBad ns.length) with
          | true => rfl
          | false =>
            rw [if_neg Bool.false_ne_true, if_neg Bool.false_ne_true]
            cases rs with
            | nil => simp at c
            | cons r0 rs =>
              have h0 : rowBad ns.length r0 = false := by
                rw [List.any_cons, Bool.or_eq_false_iff] at hr
                exact hr.1
              obtain ⟨ms, hm, _, _⟩ := rowgood h0
              have ei : oIx b (.int 0) = some r0 := by
                cases b <;> first | (cases hb; done) | (cases hb; exact L2.atI_nat (j := 0) rfl)
              rw [ei, lft_some, bnd_ret, tuple_ok hm, lft_some, bnd_ret, tuple_ok hf, lft_some, bnd_ret, oNe_of (eqD_tup ms ns), lft_some, bnd_ret, asB_bl, lft_some, bnd_ret, show (List.headD (r0 :: rs) .non) = r0 from rfl, its_of hm, intsD_map, intsD_map]
              by_cases q : ms = ns
              · rw [decide_eq_true q, Bool.not_true, if_neg Bool.false_ne_true, if_pos (by rw [q])]
                rfl
              · rw [decide_eq_false q, Bool.not_false, if_pos rfl, if_neg (fun z => q (Option.some.inj z))]
                rfl
        · have c2 : ¬ (rs.length : Int) = ((its a).length : Int) + 1 := by omega
          rw [decide_eq_false c2, Bool.not_false, if_pos rfl, if_neg c]
          rfl
theorem due_ok2 (S : Type) {f s : D} {lim : Int} {j : Nat} (hf : gd (j + 1) f) (hs : gd 8 s) : m__law_due S [f, s, .int lim] = ret (resD f s lim) := by
  unfold m__law_due resD
  simp only [bnd_ret, bnd_bnd, lft_some, List.append_nil, isas_sq (gd_pl hf), isas_sq (gd_pl hs), tru_bl]
  unfold firstsN
  cases hi : items f with
  | none => rw [sq_no hi, Bool.not_false, if_pos rfl, bnd_ret, if_pos rfl]; rfl
  | some l =>
    obtain ⟨ll, lg⟩ := gd_items hf hi
    rw [sq_of hi, Bool.not_true, if_neg Bool.false_ne_true, len_ok hi, lft_some, bnd_ret, oLe_int, Option.bind_some, asB_bl, lft_some, bnd_ret]
    dsimp only
    rw [show dueN .non l.length = (decide (1 ≤ l.length) && decide (l.length ≤ 4)) from rfl]
    by_cases c1 : 1 ≤ l.length
    · rw [decide_eq_true (by omega : (1 : Int) ≤ (l.length : Int)), if_pos rfl, oLe_int, lft_some, bnd_ret, asB_bl, lft_some, bnd_ret]
      by_cases c2 : l.length ≤ 4
      · rw [decide_eq_true (by omega : (l.length : Int) ≤ 4), Bool.not_true, bnd_ret, if_neg Bool.false_ne_true, decide_eq_true c1, decide_eq_true c2, if_pos (show (true && true) = true from rfl), bnd_ret, rg1_ok (by omega) (by omega), lft_some, bnd_ret, Int.toNat_natCast]
        have e := fun ff hff => forF_rgHit (S := S) (w := badC) (g := fun n _ => .lst [.str "firsts", .int (n : Nat)]) (f := ff) (ds := l) (n := 0) hff
        rw [show ((0 : Nat) : Int) = 0 from rfl] at e
        rw [e _ (fun i d hd => ?_), bnd_ret]
        · cases hw : fstW badC 0 l with
          | some q => rfl
          | none =>
            obtain ⟨ns, rfl, hc⟩ := cols_ints hw
            show frD _ (Fr.nx ()) = _
            rw [frD_nx, Option.map_none]
            dsimp only
            unfold sightsE
            rw [its_of hi]
            cases hsi : items s with
            | none => rw [sq_no hsi, Bool.not_false, if_pos rfl, bnd_ret, if_pos rfl]; rfl
            | some sl =>
              obtain ⟨sll, slg⟩ := gd_items hs hsi
              rw [sq_of hsi, Bool.not_true, if_neg Bool.false_ne_true, len_ok hsi, lft_some, bnd_ret, oGt_int, lft_some, bnd_ret, asB_bl, lft_some, bnd_ret]
              dsimp only
              by_cases c : lim < (sl.length : Int)
              · rw [decide_eq_true c, if_pos rfl, if_pos c]
                rfl
              · rw [decide_eq_false c, if_neg Bool.false_ne_true, if_neg c, bnd_ret, rg1_ok (by omega) (by omega), lft_some, bnd_ret, Int.toNat_natCast]
                have e2 := fun ff hff => forF_rgHit (S := S) (w := sightW (ns.map D.int)) (g := sightL) (f := ff) (ds := sl) (n := 0) hff
                rw [show ((0 : Nat) : Int) = 0 from rfl] at e2
                rw [e2 _ (fun i d hd => ?_), bnd_ret]
                · cases hw2 : fstW (sightW (ns.map D.int)) 0 sl with
                  | some q => rfl
                  | none =>
                    show frD _ (Fr.nx ()) = _
                    rw [frD_nx, bare_ok S 8 hs]
                · rw [Nat.zero_add]
                  have ei : oIx s (.int (i : Int)) = some d := by
                    cases s <;> first | (cases hsi; done) | (cases hsi; exact L2.atI_nat hd)
                  rw [ei, lft_some, bnd_ret]
                  exact turn_ok S hi (k := 4) (slg d (List.mem_of_getElem? hd))
        · rw [Nat.zero_add]
          have ei : oIx f (.int (i : Int)) = some d := by
            cases f <;> first | (cases hi; done) | (cases hi; exact L2.atI_nat hd)
          rw [ei, lft_some, bnd_ret, number_ok S (gd_pl (lg d (List.mem_of_getElem? hd))), bnd_ret, tru_bl, lft_some, bnd_ret, bad_unit]
          cases whl d 0 99 <;> rfl
      · rw [decide_eq_false (by omega : ¬ (l.length : Int) ≤ 4), Bool.not_false, bnd_ret, if_pos rfl, decide_eq_false c2, Bool.and_false, if_neg Bool.false_ne_true]
        rfl
    · rw [decide_eq_false (by omega : ¬ (1 : Int) ≤ (l.length : Int)), if_neg Bool.false_ne_true, bnd_ret, asB_bl, lft_some, bnd_ret, Bool.not_false, bnd_ret, if_pos rfl, decide_eq_false c1, Bool.false_and, if_neg Bool.false_ne_true]
      rfl
end G_spreadhues_k59_whole_sights_checked

set_option Elab.async false
set_option linter.all false
set_option maxRecDepth 100000
set_option maxHeartbeats 2000000
namespace G_spreadhues_k59_whole_sights_checked
open PySem PySem.Spec PyProof.Rows L2 Dm
theorem whl_bare (d : D) (lo hi : Int) : whl (bareD d) lo hi = whl d lo hi := by
  cases d <;> (rw [bareD]) <;> rfl
theorem badC_bare (d : D) : badC (bareD d) = badC d := by
  rw [bad_unit, bad_unit, whl_bare]
theorem fst_map {β : Type} {w : D → Option β} {g : D → D} (h : ∀ d, w (g d) = w d) : ∀ (l : List D) (n : Nat), fstW w n (l.map g) = fstW w n l
  | [], _ => rfl
  | d :: l, n => by
    rw [List.map_cons]
    cases e : w d with
    | some x => rw [fst_hit e, fst_hit (by rw [h]; exact e)]
    | none => rw [fst_miss e, fst_miss (by rw [h]; exact e), fst_map h l]
theorem firstsN_bare (f : D) : firstsN (bareD f) = firstsN f := by
  unfold firstsN
  rw [items_bare]
  cases items f with
  | none => rfl
  | some l =>
    show (if dueN .non (l.map bareD).length = true then (fstW badC 0 (l.map bareD)).map Prod.fst else some 0) = _
    rw [List.length_map, fst_map badC_bare]
theorem its_bare (f : D) : its (bareD f) = (its f).map bareD := by
  unfold its
  rw [items_bare]
  cases items f <;> rfl
theorem intsD_bare : ∀ l : List D, intsD (l.map bareD) = intsD l
  | [] => rfl
  | d :: l => by
    have ih := intsD_bare l
    rw [List.map_cons]
    cases d with
    | int i =>
      rw [bareD]
      show (intsD (l.map bareD)).map (i :: ·) = (intsD l).map (i :: ·)
      rw [ih]
    | _ => rw [bareD]; rfl
theorem wordP_bareE (m : Int) (p : D) : wordP m (bareD p) = wordP m p := by
  cases e : isCp p with
  | false =>
    have e2 : isCp (bareD p) = false := by
      unfold isCp at e ⊢
      rw [items_bare]
      cases hi : items p with
      | none => rfl
      | some l =>
        rw [hi] at e
        show decide ((l.map bareD).length = 2) = false
        rw [List.length_map]
        exact e
    rw [wordP_no e, wordP_no e2]
  | true =>
    obtain ⟨a, b, hi⟩ := cp_two e
    have h2 : items (bareD p) = some [bareD a, bareD b] := by rw [items_bare, hi]; rfl
    rw [wordP_two hi, wordP_two h2, whl_bare, whl_bare]
theorem scriptBad_bare (n : Nat) (a : D) : scriptBad n (bareD a) = scriptBad n a := by
  unfold scriptBad
  rw [items_bare]
  cases items a with
  | none => rfl
  | some l =>
    show (decide (12 < (l.map bareD).length) || (fstW (wordP (n : Int)) 0 (l.map bareD)).isSome) = _
    rw [List.length_map, fst_map (wordP_bareE _)]
theorem rowBad_bare (n : Nat) (r : D) : rowBad n (bareD r) = rowBad n r := by
  unfold rowBad
  rw [items_bare]
  cases items r with
  | none => rfl
  | some l =>
    show (!(decide ((l.map bareD).length = n)) || (fstW badC 0 (l.map bareD)).isSome) = _
    rw [List.length_map, fst_map badC_bare]
theorem headD_bare (rs : List D) : List.headD (rs.map bareD) .non = bareD (List.headD rs .non) := by
  cases rs with
  | nil => rw [show List.headD ([] : List D) .non = .non from rfl, bareD]; rfl
  | cons r rs => rfl
theorem sightW_bare (fs : List D) (t : D) : sightW (fs.map bareD) (bareD t) = sightW fs t := by
  cases e : isCp t with
  | false =>
    have e2 : isCp (bareD t) = false := by
      unfold isCp at e ⊢
      rw [items_bare]
      cases hi : items t with
      | none => rfl
      | some l =>
        rw [hi] at e
        show decide ((l.map bareD).length = 2) = false
        rw [List.length_map]
        exact e
    rw [sightW_no e, sightW_no e2]
  | true =>
    obtain ⟨a, b, hi⟩ := cp_two e
    have h2 : items (bareD t) = some [bareD a, bareD b] := by rw [items_bare, hi]; rfl
    rw [sightW_two hi, sightW_two h2, List.length_map, scriptBad_bare, items_bare]
    cases items b with
    | none => rfl
    | some rs =>
      dsimp only [Option.map_some]
      rw [List.length_map, its_bare, List.length_map, List.any_map, show (rowBad fs.length ∘ bareD) = rowBad fs.length from funext fun r => rowBad_bare _ r, headD_bare, its_bare, intsD_bare, intsD_bare]
theorem sightsE_bare (f s : D) (lim : Int) : sightsE (bareD f) (bareD s) lim = sightsE f s lim := by
  unfold sightsE
  rw [items_bare, its_bare]
  cases items s with
  | none => rfl
  | some l =>
    dsimp only [Option.map_some]
    rw [List.length_map]
    have : ∀ (l : List D) (n : Nat), fstW (sightW ((its f).map bareD)) n (l.map bareD) = fstW (sightW (its f)) n l := by
      intro l
      induction l with
      | nil => intro n; rfl
      | cons d l ih =>
        intro n
        rw [List.map_cons]
        cases e : sightW (its f) d with
        | some x => rw [fst_hit e, fst_hit (by rw [sightW_bare]; exact e)]
        | none => rw [fst_miss e, fst_miss (by rw [sightW_bare]; exact e), ih]
    rw [this]
mutual
theorem bare_bare : ∀ d : D, bareD (bareD d) = bareD d
  | .lst xs => by rw [bareD, bareD, bares_bare xs]
  | .tup xs => by rw [bareD, bareD, bares_bare xs]
  | .non => by rw [bareD, bareD]
  | .bl _ => by rw [bareD, bareD]
  | .int _ => by rw [bareD, bareD]
  | .str _ => by rw [bareD, bareD]
  | .dct _ => by rw [bareD, bareD]
  | .obj _ _ => by rw [bareD, bareD]
theorem bares_bare : ∀ xs : List D, baresD (baresD xs) = baresD xs
  | [] => by rw [baresD, baresD]
  | x :: xs => by rw [baresD, baresD, bare_bare x, bares_bare xs]
end
theorem resD_bare (f s : D) (lim : Int) : resD (bareD f) (bareD s) lim = resD f s lim := by
  unfold resD
  rw [firstsN_bare, sightsE_bare, bare_bare]
theorem resD_eq {f s f' s' : D} (lim : Int) (hf : bareD f = bareD f') (hs : bareD s = bareD s') : resD f s lim = resD f' s' lim := by
  rw [← resD_bare f s, hf, hs, resD_bare]
/-! the results compared -/
theorem bare_tw : ∀ {k : Nat} {d : D}, gd k d → twD (bareD d) = true ∧ depD (bareD d) ≤ k
  | 0, _, h => h.elim
  | k + 1, d, h => by
    have seq : ∀ xs : List D, (∀ x ∈ xs, gd k x) → twD (.tup (xs.map bareD)) = true ∧ depD (.tup (xs.map bareD)) ≤ k + 1 := fun xs hx => by
      refine ⟨twsD_mem.2 fun y hy => ?_, ?_⟩
      · obtain ⟨x, hx2, rfl⟩ := List.mem_map.1 hy
        exact (bare_tw (hx x hx2)).1
      · rw [depD]
        have : depsD (xs.map bareD) ≤ k := depsD_le fun y hy => by
          obtain ⟨x, hx2, rfl⟩ := List.mem_map.1 hy
          exact (bare_tw (hx x hx2)).2
        omega
    cases d with
    | lst xs => rw [bareD, bares_map]; exact seq xs h.2
    | tup xs => rw [bareD, bares_map]; exact seq xs h.2
    | dct kvs =>
      have h : kvs = [(.inl 0, .int 1)] := h
      subst h
      rw [bareD]
      exact ⟨rfl, by simp [depD]⟩
    | obj c fs => exact h.elim
    | non => rw [bareD]; exact ⟨rfl, by simp [depD]⟩
    | bl _ => rw [bareD]; exact ⟨rfl, by simp [depD]⟩
    | int _ => rw [bareD]; exact ⟨rfl, by simp [depD]⟩
    | str _ => rw [bareD]; exact ⟨rfl, by simp [depD]⟩
theorem ne_bare {k : Nat} {d : D} (h : gd k d) (hk : k ≤ 60) : oNeY (bareD d) (bareD d) = some (.bl false) := oNeY_self (bare_tw h).1 (by have := (bare_tw h).2; omega)
theorem firstsN_le {f : D} {k n : Nat} (h : gd (k + 1) f) (e : firstsN f = some n) : n ≤ 1000 := by
  unfold firstsN at e
  cases hi : items f with
  | none => rw [hi] at e; cases e; omega
  | some l =>
    rw [hi] at e
    have hl := (gd_items h hi).1
    dsimp only at e
    split at e
    · cases q : fstW badC 0 l with
      | none => rw [q] at e; cases e
      | some x =>
        rw [q] at e
        cases e
        have := fstW_some (k := x.1) (x := x.2) q
        omega
    · cases e
      omega
theorem sightsE_le {f s : D} {lim : Int} {k : Nat} {q : Nat × Str} (h : gd (k + 1) s) (e : sightsE f s lim = some q) : q.1 ≤ 1000 ∧ pln (.str q.2) = true := by
  unfold sightsE at e
  cases hi : items s with
  | none => rw [hi] at e; cases e; exact ⟨by omega, by decide +kernel⟩
  | some l =>
    rw [hi] at e
    have hl := (gd_items h hi).1
    dsimp only at e
    split at e
    · cases e
      exact ⟨by omega, by decide +kernel⟩
    · obtain ⟨_, h2, d, _, hw⟩ := fstW_some (k := q.1) (x := q.2) e
      refine ⟨by omega, ?_⟩
      have : q.2 = "sight" ∨ q.2 = "script" ∨ q.2 = "rows" ∨ q.2 = "firsts" := by
        generalize q.2 = w at hw
        unfold sightW at hw
        split at hw
        · split at hw
          · cases hw; exact .inr (.inl rfl)
          · split at hw
            · cases hw; exact .inr (.inr (.inl rfl))
            · split at hw
              · split at hw
                · cases hw; exact .inr (.inr (.inl rfl))
                · split at hw
                  · cases hw
                  · cases hw; exact .inr (.inr (.inr rfl))
              · cases hw; exact .inr (.inr (.inl rfl))
        · cases hw; exact .inl rfl
      rcases this with e | e | e | e <;> rw [e] <;> decide +kernel
theorem ne_res {f s : D} {lim : Int} {j : Nat} (hf : gd (j + 1) f) (hs : gd 8 s) : oNeY (resD f s lim) (resD f s lim) = some (.bl false) := by
  unfold resD
  cases e : firstsN f with
  | some n =>
    have := firstsN_le hf e
    refine oNeY_of (oNe_of (b := true) (eqD_self ?_ (by simp [depD, depsD])))
    have e1 : pln (.str (Str.ofString "firsts")) = true := by decide +kernel
    have e2 : pln (.int (n : Int)) = true := decide_eq_true (by omega)
    show (pln (.str (Str.ofString "firsts")) && (pln (.int (n : Int)) && true)) = true
    rw [e1, e2]
    rfl
  | none =>
    dsimp only
    cases e2 : sightsE f s lim with
    | some q =>
      obtain ⟨h1, h2⟩ := sightsE_le hs e2
      refine oNeY_of (oNe_of (b := true) (eqD_self ?_ (by simp [depD, depsD])))
      have e1 : pln (.str (Str.ofString "sight")) = true := by decide +kernel
      have e3 : pln (.int (q.1 : Int)) = true := decide_eq_true (by omega)
      show (pln (.str (Str.ofString "sight")) && (pln (.int (q.1 : Int)) && (pln (.str q.2) && true))) = true
      rw [e1, e3, h2]
      rfl
    | none => exact ne_bare hs (by decide)
/-- tuples of whole numbers -/
def tq : Nat → D → Prop
  | 0, _ => False
  | k + 1, d => match d with
    | .tup xs => xs.length < 1000 ∧ ∀ x ∈ xs, tq k x
    | .int _ => True
    | _ => False
theorem tq_up {d : D} : ∀ {k j : Nat}, k ≤ j → tq k d → tq j d := by
  intro k
  induction k generalizing d with
  | zero => intro j _ h; exact h.elim
  | succ k ih =>
    intro j hj h
    obtain ⟨j, rfl⟩ : ∃ i, j = i + 1 := ⟨j - 1, by omega⟩
    cases d with
    | tup xs => exact ⟨h.1, fun x hx => ih (by omega) (h.2 x hx)⟩
    | int i => trivial
    | _ => exact h.elim
theorem tuples_ok (S : Type) : ∀ (k : Nat) {d : D}, tq k d → m__law_tuples k S [d] = ret (.bl true)
  | 0, _, h => h.elim
  | k + 1, d, h => by
    cases d with
    | int i => unfold m__law_tuples; rfl
    | tup xs =>
      unfold m__law_tuples
      have e1 : oIsA .tuple (.tup xs) = some (.bl true) := rfl
      have e2 : items (.tup xs) = some xs := rfl
      have hl := h.1
      simp only [bnd_ret, bnd_bnd, lft_some, List.append_nil, e1, e2, tru_bl, if_true]
      rw [mkL_ok (by omega), lft_some, bnd_ret, lcM_retI (e := fun d => d) (p := fun _ => false) (g := fun _ => D.int 1) (ts := xs) (by rfl) (fun t ht => by rw [tuples_ok S k (h.2 t ht), bnd_ret]; rfl) (fun t _ hh => by cases hh), bnd_ret, List.filter_eq_nil_iff.2 (fun _ _ hh => by cases hh)]
      rfl
    | _ => exact h.elim
theorem tq_ints {k : Nat} {ns : List Int} (h : ns.length < 1000) : tq (k + 2) (.tup (ns.map D.int)) := ⟨by rw [List.length_map]; exact h, fun x hx => by
  obtain ⟨i, _, rfl⟩ := List.mem_map.1 hx
  trivial⟩
theorem pour_ints {m : Int} {p : D} (h : wordP m p = none) : ∃ i j : Int, bareD p = .tup [.int i, .int j] := by
  rw [wordP_bare h]
  unfold wordP at h
  split at h
  · rename_i a b e
    rw [its_of e]
    split at h
    · rename_i c1
      split at h
      · rename_i c2
        have : ∀ {d : D} {lo hi : Int}, whl d lo hi = true → ∃ k, d = .int k := fun {d lo hi} q => by cases d <;> first | exact ⟨_, rfl⟩ | cases q
        obtain ⟨i, rfl⟩ := this c1
        obtain ⟨j, rfl⟩ := this c2
        exact ⟨i, j, rfl⟩
      · cases h
    · cases h
  · cases h
theorem tq_res {f s : D} {lim : Int} {k : Nat} (hs : gd (k + 4) s) (h1 : firstsN f = none) (h2 : sightsE f s lim = none) : tq 8 (bareD s) ∧ isSq (bareD s) = true := by
  unfold sightsE at h2
  cases hi : items s with
  | none => rw [hi] at h2; cases h2
  | some l =>
    rw [hi] at h2
    obtain ⟨ll, lg⟩ := gd_items hs hi
    dsimp only at h2
    split at h2
    · cases h2
    · have hw := fstW_none.1 h2
      rw [bare_sq hi]
      refine ⟨tq_up (k := 5) (by decide) ⟨by rw [List.length_map]; exact ll, fun x hx => ?_⟩, rfl⟩
      obtain ⟨t, ht, rfl⟩ := List.mem_map.1 hx
      obtain ⟨a, b, rs, e1, e2, e3, e4⟩ := sightW_none (hw t ht)
      rw [bare_sq e1]
      refine ⟨(show (2 : Nat) < 1000 by decide), fun y hy => ?_⟩
      simp only [List.map_cons, List.map_nil, List.mem_cons, List.not_mem_nil, or_false] at hy
      rcases hy with rfl | rfl
      · obtain ⟨ps, f1, f2, f3⟩ := script_good e2
        rw [bare_sq f1]
        refine ⟨by rw [List.length_map]; omega, fun z hz => ?_⟩
        obtain ⟨p, hp, rfl⟩ := List.mem_map.1 hz
        obtain ⟨i, j, e⟩ := pour_ints (f3 p hp)
        rw [e]
        exact tq_ints (k := 0) (ns := [i, j]) (show (2 : Nat) < 1000 by decide)
      · have gb := (gd_items (lg t ht) e1).2 b (by simp)
        obtain ⟨rl, _⟩ := gd_items gb e3
        rw [bare_sq e3]
        refine ⟨by rw [List.length_map]; exact rl, fun z hz => ?_⟩
        obtain ⟨r, hr, rfl⟩ := List.mem_map.1 hz
        obtain ⟨ns, g1, g2, _⟩ := rowgood (e4 r hr)
        rw [bare_sq g1, bare_ints]
        refine tq_ints (k := 0) ?_
        have gr := (gd_items gb e3).2 r hr
        have := (gd_items gr g1).1
        rw [List.length_map] at this
        exact this
/-- found and not of tuples: never -/
theorem res_tuples (S : Type) {f s : D} {lim : Int} (hs : gd 8 s) : (bnd (lft (oIsA .tuple (resD f s lim))) fun a => bnd (lft (tru a)) fun a => if a = true then bnd (m__law_tuples 8 S [resD f s lim]) fun a => bnd (lft (tru a)) fun b => ret !b else ret false : MS S Bool) = ret false := by
  unfold resD
  cases e : firstsN f with
  | some n => rfl
  | none =>
    dsimp only
    cases e2 : sightsE f s lim with
    | some q => rfl
    | none =>
      dsimp only
      obtain ⟨h1, h2⟩ := tq_res (k := 4) hs e e2
      cases hi : items s with
      | none => unfold sightsE at e2; rw [hi] at e2; cases e2
      | some l =>
        rw [bare_sq hi] at h1 ⊢
        rw [show oIsA .tuple (.tup (l.map bareD)) = some (.bl true) from rfl, lft_some, bnd_ret, tru_bl, lft_some, bnd_ret, if_pos rfl, tuples_ok S 8 h1, bnd_ret]
        rfl
end G_spreadhues_k59_whole_sights_checked

set_option Elab.async false
set_option linter.all false
set_option maxRecDepth 100000
set_option maxHeartbeats 2000000
namespace G_spreadhues_k59_whole_sights_checked
open PySem PySem.Spec PyProof.Rows L2 Dm
section
variable {cells : List Int} (hc : cells.length ≤ 63)
include hc
theorem colour_dr : Tk cells (m__law_colour cells []) (fun d => ∃ k, d = .int k ∧ 0 ≤ k ∧ k < 100) := by
  unfold m__law_colour
  simp only [bnd_ret, bnd_bnd, lft_some, List.append_nil]
  have w : ∀ n : Int, 0 < n → n < 2 ^ 99 → n ≤ 100 → Tk cells (m__law_take cells [.int n]) (fun d => ∃ k, d = .int k ∧ 0 ≤ k ∧ k < 100) := fun n h1 h2 h3 s hs => by
    obtain ⟨a, s1, e, h, k, hk, h4, h5⟩ := take_ok h1 h2 hc s hs
    exact ⟨a, s1, e, h, k, hk, h4, by omega⟩
  refine tk_bnd (take_ok (n := 16) (by decide) (by decide) hc) fun d hd => ?_
  obtain ⟨k, rfl, k0, k1⟩ := hd
  simp only [oEq_int, oLt_int, asB_bl, lft_some, bnd_ret]
  exact tk_ite (fun _ => w 100 (by decide) (by decide) (by decide)) fun _ => tk_ite (fun _ => w 6 (by decide) (by decide) (by decide)) fun _ => w 3 (by decide) (by decide) (by decide)
theorem odd_dr (b : Int) : Tk cells (m__law_odd cells [.int b]) (gd 2) := by
  unfold m__law_odd
  have n1 : oNeg (.int 1) = some (.int (-1)) := rfl
  have p12 : oPow (.int 10) (.int 12) = some (.int 1000000000000) := by rfl
  simp only [bnd_ret, bnd_bnd, lft_some, List.append_nil, mk1, mk8, Option.map_some, n1, p12, oSub_int]
  refine tk_bnd (take_ok (n := 9) (by decide) (by decide) hc) fun d hd => ?_
  obtain ⟨k, rfl, k0, k1⟩ := hd
  simp only [oEq_int, oLt_int, oSub_int, asB_bl, lft_some, bnd_ret]
  refine tk_ite (fun _ => ?_) fun e1 => tk_ite (fun _ => ?_) fun e2 => ?_
  · refine tk_bnd (take_ok (n := 1000000000000) (by decide) (by decide) hc) fun d hd => ?_
    obtain ⟨j, rfl, j0, j1⟩ := hd
    rw [oAdd_int]
    exact tk_lft rfl trivial
  · refine tk_bnd (take_ok (n := 1000000000000) (by decide) (by decide) hc) fun d hd => ?_
    obtain ⟨j, rfl, j0, j1⟩ := hd
    rw [oSub_int]
    exact tk_lft rfl trivial
  · have h1 := of_decide_eq_false e1
    have h2 := of_decide_eq_false e2
    have pick : ∀ j : Int, 0 ≤ j → j < 8 → Tk cells (lft (oIx (.lst [.bl true, .bl false, .non, .str (Str.ofString "1"), .tup [.int 0], .str (Str.ofString "00"), .int b, .str (Str.ofString "")]) (.int j))) (gd 2) := fun j j0 j1 => by
      refine tk_ix j0 (by show j < 8; omega) fun d hd => ?_
      simp only [List.mem_cons, List.not_mem_nil, or_false] at hd
      rcases hd with rfl | rfl | rfl | rfl | rfl | rfl | rfl | rfl <;> first | trivial | exact ⟨(show (1 : Nat) < 1000 by decide), fun x hx => by rw [List.mem_singleton.1 hx]; trivial⟩
    by_cases c : k < 8
    · rw [decide_eq_true c, if_pos rfl, bnd_ret]
      exact pick _ (by omega) (by omega)
    · rw [decide_eq_false c, if_neg Bool.false_ne_true, bnd_ret]
      exact pick 6 (by decide) (by decide)
theorem rid_dr : Tk cells (m__law_rid cells []) (gd 1) := by
  unfold m__law_rid
  have n1 : oNeg (.int 1) = some (.int (-1)) := rfl
  simp only [bnd_ret, bnd_bnd, lft_some, List.append_nil, mk6, n1]
  refine tk_bnd (take_ok (n := 6) (by decide) (by decide) hc) fun d hd => ?_
  obtain ⟨k, rfl, k0, k1⟩ := hd
  refine tk_ix k0 k1 fun d hd => ?_
  simp only [List.mem_cons, List.not_mem_nil, or_false] at hd
  rcases hd with rfl | rfl | rfl | rfl | rfl | rfl <;> first | trivial | rfl
end
theorem lcQ_ret {S : Type} {f : D → MS S (List D)} {g : D → List D} : ∀ {ds : List D}, (∀ d ∈ ds, f d = ret (g d)) → lcQ un1 f ds = ret (ds.map g)
  | [], _ => rfl
  | d :: ds, h => by
    unfold lcQ
    rw [show un1 d = some d from rfl, lft_some, bnd_ret, h d (by simp), nex_ret, bnd_ret, lcQ_ret fun x hx => h x (by simp [hx]), bnd_ret]
    rfl
/-- rows of small data, none empty -/
def Qok (m : Nat) (qs : List (List D)) : Prop := ∀ q ∈ qs, q.length = m ∧ ∀ x ∈ q, gd 2 x
theorem q_gd {m : Nat} {qs : List (List D)} (hm : m < 900) (h : Qok m qs) : ∀ d ∈ qs.map D.lst, gd 3 d := fun d hd => by
  obtain ⟨q, hq, rfl⟩ := List.mem_map.1 hd
  exact ⟨by rw [(h q hq).1]; omega, (h q hq).2⟩
theorem atQ_ok {qs : List (List D)} {z : Int} (h0 : 0 ≤ z) (h1 : z < qs.length) : atQ qs (.int z) = some z.toNat := by
  show ixN qs.length z = _
  unfold ixN
  rw [if_pos h0, if_pos h1]
theorem inQ_mem {qs : List (List D)} {j : Nat} (h : j < qs.length) : inQ qs j ∈ qs := by
  unfold inQ
  rw [List.getElem?_eq_getElem h]
  exact List.getElem_mem h
theorem setQ_ok {m : Nat} {qs : List (List D)} {j i : Nat} {d : D} (h : Qok m qs) (hj : j < qs.length) (hi : i < m) (hd : gd 2 d) : ∃ qs2, setQ qs j (.int (i : Int)) d = some qs2 ∧ Qok m qs2 ∧ qs2.length = qs.length := by
  obtain ⟨l, g⟩ := h _ (inQ_mem hj)
  refine ⟨qs.set j ((inQ qs j).set i d), ?_, fun q hq => ?_, by rw [List.length_set]⟩
  · unfold setQ
    rw [set1_ok (by omega)]
    rfl
  · rcases List.mem_or_eq_of_mem_set hq with e | e
    · exact h q e
    · subst e
      refine ⟨by rw [List.length_set]; exact l, fun x hx => ?_⟩
      rcases List.mem_or_eq_of_mem_set hx with e | e
      · exact g x e
      · rw [e]; exact hd
/-- the same list in one place another -/
theorem set1_dr {k : Nat} {ds : List D} {z : Int} {d : D} (h0 : 0 ≤ z) (h1 : z < ds.length) (h : ∀ x ∈ ds, gd k x) (hd : gd k d) : ∃ es, set1 ds (.int z) d = some es ∧ es.length = ds.length ∧ ∀ x ∈ es, gd k x := by
  obtain ⟨i, rfl⟩ : ∃ i : Nat, z = (i : Int) := ⟨z.toNat, by omega⟩
  refine ⟨ds.set i d, set1_ok (by omega), by rw [List.length_set], fun x hx => ?_⟩
  rcases List.mem_or_eq_of_mem_set hx with e | e
  · exact h x e
  · rw [e]; exact hd
theorem q_at {m : Nat} {qs : List (List D)} {z : Int} (h : Qok m qs) (h0 : 0 ≤ z) (h1 : z < qs.length) : ∃ q, oIx (.lst (qs.map D.lst)) (.int z) = some (.lst q) ∧ q.length = m ∧ ∀ x ∈ q, gd 2 x := by
  obtain ⟨i, rfl⟩ : ∃ i : Nat, z = (i : Int) := ⟨z.toNat, by omega⟩
  have hi : i < qs.length := by omega
  refine ⟨qs[i], ?_, h _ (List.getElem_mem hi)⟩
  refine L2.atI_nat ?_
  rw [List.getElem?_map, List.getElem?_eq_getElem hi]
  rfl
section
variable {cells : List Int} (hc : cells.length ≤ 63)
include hc
/-- a script of pours of two numbers -/
theorem cracked_dr {ps : List D} {many : Int} (hl : ps.length ≤ 12) (hp : ∀ p ∈ ps, ∃ i j : Int, p = .tup [.int i, .int j]) : Tk cells (m__law_cracked cells [.lst ps, .int many]) (gd 4) := by
  unfold m__law_cracked
  have hq : lcQ un1 (fun x => lft (items x)) ps = (ret (ps.map its) : MS Hd (List (List D))) := lcQ_ret fun p hpp => by
    obtain ⟨i, j, rfl⟩ := hp p hpp
    rfl
  have ok : Qok 2 (ps.map its) := fun q hqq => by
    obtain ⟨p, hpp, rfl⟩ := List.mem_map.1 hqq
    obtain ⟨i, j, rfl⟩ := hp p hpp
    refine ⟨rfl, fun x hx => ?_⟩
    rw [show its (.tup [.int i, .int j]) = [.int i, .int j] from rfl] at hx
    simp only [List.mem_cons, List.not_mem_nil, or_false] at hx
    rcases hx with rfl | rfl <;> trivial
  have ql : (ps.map its).length = ps.length := List.length_map _
  generalize ps.map its = qs at hq ok ql
  simp only [bnd_ret, bnd_bnd, lft_some, List.append_nil, show items (.lst ps) = some ps from rfl, mkL_ok (show ps.length < 1000000 by omega), hq]
  refine tk_bnd (take_ok (n := 5) (by decide) (by decide) hc) fun d hd => ?_
  obtain ⟨k, rfl, k0, k1⟩ := hd
  simp only [oEq_int, asB_bl, lft_some, bnd_ret]
  refine tk_ite (fun _ => ?_) fun e0 => ?_
  · intro s hs
    obtain ⟨a, s1, e, h1, h2⟩ := rid_dr hc s hs
    exact ⟨a, s1, e, h1, gd_up (by decide) h2⟩
  have len : oLen (.lst (qs.map D.lst)) = some (.int (qs.length : Int)) := by rw [len_ok (show items (.lst (qs.map D.lst)) = some _ from rfl), List.length_map]
  refine tk_bnd (P := fun b : Bool => b = false → 0 < qs.length) (tk_ite (fun _ => tk_ret fun h => by cases h) fun _ => tk_ret fun h => ?_) fun b hb => tk_ite (fun _ => ?_) fun eb => ?_
  · cases qs with
    | nil => cases h
    | cons q qs => exact Nat.succ_pos _
  · rw [len, lft_some, bnd_ret, oSub_int, lft_some, bnd_ret, rg1_ok (by omega) (by omega), lft_some, bnd_ret, mkL_ok (by rw [rgD_len]; omega), lft_some, bnd_ret, lc_range (p := fun _ => true) (g := fun _ => .lst [.int 0, .int 0]) (fun i _ => rfl) (fun i _ _ => by rw [mk2, lft_some, bnd_ret]), bnd_ret]
    have hl2 : (qs.map D.lst).length + (((List.range ((13 : Int) - qs.length).toNat).filter fun _ => true).map fun _ => D.lst [.int 0, .int 0]).length < 900 := by
      rw [List.length_map, List.length_map, List.filter_eq_self.2 (fun _ _ => rfl), List.length_range]
      omega
    refine tk_lft (show oAdd (.lst _) (.lst _) = some (.lst _) from if_pos (by unfold tooLong; omega)) ⟨by rw [List.length_append]; omega, fun x hx => ?_⟩
    rcases List.mem_append.1 hx with e | e
    · exact q_gd (by decide) ok x e
    · obtain ⟨i, _, rfl⟩ := List.mem_map.1 e
      exact ⟨(show (2 : Nat) < 1000 by decide), fun y hy => by
        simp only [List.mem_cons, List.not_mem_nil, or_false] at hy
        rcases hy with rfl | rfl <;> trivial⟩
  · have hpos := hb eb
    refine tk_bnd (take_ok (n := (qs.length : Int)) (by omega) (by omega) hc) fun d hd => ?_
    obtain ⟨z, rfl, z0, z1⟩ := hd
    have at1 : atQ qs (.int z) = some z.toNat := atQ_ok z0 z1
    have fin : ∀ ds : List D, ds.length = qs.length → (∀ x ∈ ds, gd 3 x) → Tk cells (ret (.lst ds) : MS Hd D) (gd 4) := fun ds h1 h2 => tk_ret ⟨by omega, h2⟩
    refine tk_bnd (P := fun ds : List D => ds.length = qs.length ∧ ∀ x ∈ ds, gd 3 x) (tk_ite (fun _ => ?_) fun _ => tk_ite (fun _ => ?_) fun _ => ?_) fun ds hds => fin ds hds.1 hds.2
    · refine tk_bnd (odd_dr hc many) fun d hd => ?_
      obtain ⟨qs2, e1, e2, e3⟩ := setQ_ok (i := 0) ok (show z.toNat < qs.length by omega) (by decide) hd
      rw [at1, lft_some, bnd_ret, show ((0 : Int)) = ((0 : Nat) : Int) from rfl, e1, lft_some, bnd_ret]
      exact tk_ret ⟨by rw [List.length_map, e3], q_gd (by decide) e2⟩
    · refine tk_bnd (odd_dr hc 100) fun d hd => ?_
      obtain ⟨qs2, e1, e2, e3⟩ := setQ_ok (i := 1) ok (show z.toNat < qs.length by omega) (by decide) hd
      rw [at1, lft_some, bnd_ret, show ((1 : Int)) = ((1 : Nat) : Int) from rfl, e1, lft_some, bnd_ret]
      exact tk_ret ⟨by rw [List.length_map, e3], q_gd (by decide) e2⟩
    · refine tk_bnd (rid_dr hc) fun r hr => ?_
      obtain ⟨q, e1, e2, e3⟩ := q_at ok z0 z1
      obtain ⟨x0, e4⟩ : ∃ x0, q[0]? = some x0 := ⟨q[0], List.getElem?_eq_getElem (by omega)⟩
      have hx0 := e3 x0 (List.mem_of_getElem? e4)
      rw [e1, lft_some, bnd_ret, show oIx (.lst q) (.int 0) = some x0 from L2.atI_nat (j := 0) e4, lft_some, bnd_ret, mk1, lft_some, bnd_ret, bnd_ret, mk1, lft_some, bnd_ret, show oAdd (.lst q) (.lst [.int 0]) = some (.lst (q ++ [.int 0])) from if_pos (by show q.length + 1 < tooLong; unfold tooLong; omega), lft_some, bnd_ret, mk3, lft_some, bnd_ret]
      refine tk_bnd (take_ok (n := 3) (by decide) (by decide) hc) fun d hd => ?_
      obtain ⟨t, rfl, t0, t1⟩ := hd
      refine tk_bnd (P := gd 3) (tk_ix t0 t1 fun d hd => ?_) fun v hv => ?_
      · simp only [List.mem_cons, List.not_mem_nil, or_false] at hd
        rcases hd with rfl | rfl | rfl
        · exact gd_up (by decide) hr
        · exact ⟨(show (1 : Nat) < 1000 by decide), fun y hy => by rw [List.mem_singleton.1 hy]; exact hx0⟩
        · refine ⟨by rw [List.length_append]; show q.length + 1 < 1000; omega, fun y hy => ?_⟩
          rcases List.mem_append.1 hy with w | w
          · exact e3 y w
          · rw [List.mem_singleton.1 w]; trivial
      · obtain ⟨es, f1, f2, f3⟩ := set1_dr z0 (by rw [List.length_map]; omega) (q_gd (by decide) ok) hv
        rw [f1, lft_some, bnd_ret]
        exact tk_ret ⟨by rw [f2, List.length_map], f3⟩
end
end G_spreadhues_k59_whole_sights_checked

set_option Elab.async false
set_option linter.all false
set_option maxRecDepth 100000
set_option maxHeartbeats 2000000
namespace G_spreadhues_k59_whole_sights_checked
open PySem PySem.Spec PyProof.Rows L2 Dm
section
variable {cells : List Int} (hc : cells.length ≤ 63)
include hc
/-- rows of so many numbers -/
theorem torn_dr {rs : List D} {m : Nat} (m1 : 1 ≤ m) (m4 : m ≤ 4) (r1 : 1 ≤ rs.length) (hl : rs.length ≤ 13) (hp : ∀ r ∈ rs, ∃ ns : List Int, r = .tup (ns.map D.int) ∧ ns.length = m) : Tk cells (m__law_torn cells [.lst rs]) (gd 4) := by
  unfold m__law_torn
  have hq : lcQ un1 (fun x => lft (items x)) rs = (ret (rs.map its) : MS Hd (List (List D))) := lcQ_ret fun p hpp => by
    obtain ⟨ns, rfl, _⟩ := hp p hpp
    rfl
  have ok : Qok m (rs.map its) := fun q hqq => by
    obtain ⟨p, hpp, rfl⟩ := List.mem_map.1 hqq
    obtain ⟨ns, rfl, hn⟩ := hp p hpp
    rw [show its (.tup (ns.map D.int)) = ns.map D.int from rfl]
    refine ⟨by rw [List.length_map]; exact hn, fun x hx => ?_⟩
    obtain ⟨i, _, rfl⟩ := List.mem_map.1 hx
    trivial
  have ql : (rs.map its).length = rs.length := List.length_map _
  generalize rs.map its = qs at hq ok ql
  simp only [bnd_ret, bnd_bnd, lft_some, List.append_nil, show items (.lst rs) = some rs from rfl, mkL_ok (show rs.length < 1000000 by omega), hq]
  refine tk_bnd (take_ok (n := 6) (by decide) (by decide) hc) fun d hd => ?_
  obtain ⟨k, rfl, k0, k1⟩ := hd
  refine tk_bnd (take_ok (n := (qs.length : Int)) (by omega) (by omega) hc) fun d hd => ?_
  obtain ⟨z, rfl, z0, z1⟩ := hd
  simp only [oEq_int, asB_bl, lft_some, bnd_ret]
  have len : oLen (.lst (qs.map D.lst)) = some (.int (qs.length : Int)) := by rw [len_ok (show items (.lst (qs.map D.lst)) = some _ from rfl), List.length_map]
  have all := q_gd (by omega) ok
  obtain ⟨q, e1, e2, e3⟩ := q_at ok z0 z1
  have gq : gd 3 (.lst q) := ⟨by omega, e3⟩
  have ll : (qs.map D.lst).length = qs.length := List.length_map _
  refine tk_ite (fun _ => ?_) fun _ => tk_ite (fun _ => ?_) fun _ => tk_ite (fun _ => ?_) fun _ => ?_
  · intro s hs
    obtain ⟨a, s1, e, h1, h2⟩ := rid_dr hc s hs
    exact ⟨a, s1, e, h1, gd_up (by decide) h2⟩
  · rw [len, lft_some, bnd_ret, oSub_int, lft_some, bnd_ret, show oInt? (.int ((qs.length : Int) - 1)) = some (some ((qs.length : Int) - 1)) from rfl, lft_some, bnd_ret]
    obtain ⟨i, hi⟩ : ∃ i : Nat, (qs.length : Int) - 1 = (i : Int) := ⟨qs.length - 1, by omega⟩
    rw [hi]
    refine tk_lft (show oSl (.lst (qs.map D.lst)) none (some (i : Int)) = some (.lst (cut (qs.map D.lst) none (some (i : Int)))) from rfl) ?_
    rw [cut_takeN]
    exact ⟨by rw [List.length_take]; omega, fun x hx => all x (List.mem_of_mem_take hx)⟩
  · rw [e1, lft_some, bnd_ret, mk1, lft_some, bnd_ret]
    refine tk_lft (show oAdd (.lst (qs.map D.lst)) (.lst [.lst q]) = some (.lst (qs.map D.lst ++ [.lst q])) from if_pos (by show (qs.map D.lst).length + 1 < tooLong; unfold tooLong; omega)) ⟨by rw [List.length_append]; show (qs.map D.lst).length + 1 < 1000; omega, fun x hx => ?_⟩
    rcases List.mem_append.1 hx with w | w
    · exact all x w
    · rw [List.mem_singleton.1 w]; exact gq
  · refine tk_bnd (P := fun ds : List D => ds.length = qs.length ∧ ∀ x ∈ ds, gd 3 x) (tk_ite (fun _ => ?_) fun _ => tk_ite (fun _ => ?_) fun _ => ?_) fun ds hds => tk_ret ⟨by omega, hds.2⟩
    · refine tk_bnd (rid_dr hc) fun r hr => ?_
      obtain ⟨es, f1, f2, f3⟩ := set1_dr z0 (by omega) all (gd_up (by decide) hr)
      rw [f1, lft_some, bnd_ret]
      exact tk_ret ⟨by omega, f3⟩
    · refine tk_bnd (take_ok (n := 2) (by decide) (by decide) hc) fun d hd => ?_
      obtain ⟨t, rfl, t0, t1⟩ := hd
      rw [show tru (.int t) = some (t != 0) from rfl, lft_some, bnd_ret, e1]
      refine tk_bnd (P := gd 3) (tk_ite (fun _ => ?_) fun _ => ?_) fun v hv => ?_
      · rw [lft_some, bnd_ret, mk1, lft_some, bnd_ret]
        refine tk_lft (show oAdd (.lst q) (.lst [.int 0]) = some (.lst (q ++ [.int 0])) from if_pos (by show q.length + 1 < tooLong; unfold tooLong; omega)) ⟨by rw [List.length_append]; show q.length + 1 < 1000; omega, fun y hy => ?_⟩
        rcases List.mem_append.1 hy with w | w
        · exact e3 y w
        · rw [List.mem_singleton.1 w]; trivial
      · rw [lft_some, bnd_ret, show oInt? (.int 1) = some (some 1) from rfl, lft_some, bnd_ret]
        refine tk_lft (show oSl (.lst q) (some 1) none = some (.lst (cut q (some 1) none)) from rfl) ?_
        rw [cut_drop]
        exact ⟨by rw [List.length_drop]; omega, fun x hx => e3 x (List.mem_of_mem_drop hx)⟩
      · obtain ⟨es, f1, f2, f3⟩ := set1_dr z0 (by omega) all hv
        rw [f1, lft_some, bnd_ret]
        exact tk_ret ⟨by omega, f3⟩
    · refine tk_bnd (odd_dr hc 100) fun d hd => ?_
      have at1 : atQ qs (.int z) = some z.toNat := atQ_ok z0 z1
      have hz : z.toNat < qs.length := by omega
      have hin := (ok _ (inQ_mem hz)).1
      rw [at1, lft_some, bnd_ret, bnd_ret]
      refine tk_bnd (take_ok (n := ((inQ qs z.toNat).length : Int)) (by omega) (by omega) hc) fun y hy => ?_
      obtain ⟨u, rfl, u0, u1⟩ := hy
      obtain ⟨i, rfl⟩ : ∃ i : Nat, u = (i : Int) := ⟨u.toNat, by omega⟩
      obtain ⟨qs2, g1, g2, g3⟩ := setQ_ok (i := i) ok hz (by omega) hd
      rw [g1, lft_some, bnd_ret]
      exact tk_ret ⟨by rw [List.length_map, g3], q_gd (by omega) g2⟩
/-- a sight as it is drawn -/
def Sight (m : Nat) (t : D) : Prop := ∃ ps rs : List D, t = .tup [.lst ps, .lst rs] ∧ ps.length ≤ 12 ∧ (∀ p ∈ ps, ∃ i j : Int, p = .tup [.int i, .int j]) ∧ rs.length = ps.length + 1 ∧ ∀ r ∈ rs, ∃ ns : List Int, r = .tup (ns.map D.int) ∧ ns.length = m
omit hc in
theorem sight_gd {m : Nat} {t : D} (m4 : m ≤ 4) (h : Sight m t) : gd 5 t := by
  obtain ⟨ps, rs, rfl, h1, h2, h3, h4⟩ := h
  refine ⟨(show (2 : Nat) < 1000 by decide), fun x hx => ?_⟩
  simp only [List.mem_cons, List.not_mem_nil, or_false] at hx
  rcases hx with rfl | rfl
  · refine ⟨by omega, fun p hp => ?_⟩
    obtain ⟨i, j, rfl⟩ := h2 p hp
    exact ⟨(show (2 : Nat) < 1000 by decide), fun y hy => by
      simp only [List.mem_cons, List.not_mem_nil, or_false] at hy
      rcases hy with rfl | rfl <;> trivial⟩
  · refine ⟨by omega, fun r hr => ?_⟩
    obtain ⟨ns, rfl, hn⟩ := h4 r hr
    exact ⟨by rw [List.length_map]; omega, fun y hy => by
      obtain ⟨i, _, rfl⟩ := List.mem_map.1 hy
      trivial⟩
theorem wrong_dr {t : D} {m : Nat} (m1 : 1 ≤ m) (m4 : m ≤ 4) (h : Sight m t) : Tk cells (m__law_wrong cells [t, .int (m : Int)]) (gd 6) := by
  have gt := sight_gd m4 h
  obtain ⟨ps, rs, rfl, h1, h2, h3, h4⟩ := h
  have i0 : oIx (.tup [.lst ps, .lst rs]) (.int 0) = some (.lst ps) := (ix_two (show items (.tup [.lst ps, .lst rs]) = some [.lst ps, .lst rs] from rfl)).1
  have i1 : oIx (.tup [.lst ps, .lst rs]) (.int 1) = some (.lst rs) := (ix_two (show items (.tup [.lst ps, .lst rs]) = some [.lst ps, .lst rs] from rfl)).2
  have gp : gd 4 (.lst ps) := gt.2 _ (by simp)
  have gr : gd 4 (.lst rs) := gt.2 _ (by simp)
  have two : ∀ {x y : D}, gd 5 x → gd 5 y → gd 6 (.lst [x, y]) := fun {x y} hx hy => ⟨(show (2 : Nat) < 1000 by decide), fun z hz => by
    simp only [List.mem_cons, List.not_mem_nil, or_false] at hz
    rcases hz with rfl | rfl
    · exact hx
    · exact hy⟩
  unfold m__law_wrong
  simp only [bnd_ret, bnd_bnd, lft_some, List.append_nil, i0, i1, mk1, mk2, show items (.tup [.lst ps, .lst rs]) = some [.lst ps, .lst rs] from rfl]
  refine tk_bnd (take_ok (n := 9) (by decide) (by decide) hc) fun d hd => ?_
  obtain ⟨k, rfl, k0, k1⟩ := hd
  simp only [oEq_int, asB_bl, lft_some, bnd_ret]
  refine tk_ite (fun _ => ?_) fun _ => tk_ite (fun _ => ?_) fun _ => tk_ite (fun _ => ?_) fun _ => tk_ite (fun _ => ?_) fun _ => tk_ret (gd_up (by decide) gt)
  · refine tk_bnd (rid_dr hc) fun r hr => ?_
    rw [show oAdd (.lst [.lst ps, .lst rs]) (.lst [.int 0]) = some (.lst [.lst ps, .lst rs, .int 0]) from rfl, lft_some, bnd_ret, mk3, lft_some, bnd_ret]
    refine tk_bnd (take_ok (n := 3) (by decide) (by decide) hc) fun d hd => ?_
    obtain ⟨u, rfl, u0, u1⟩ := hd
    refine tk_ix u0 u1 fun d hd => ?_
    simp only [List.mem_cons, List.not_mem_nil, or_false] at hd
    rcases hd with rfl | rfl | rfl
    · exact gd_up (by decide) hr
    · exact ⟨(show (1 : Nat) < 1000 by decide), fun y hy => by rw [List.mem_singleton.1 hy]; exact gd_up (by decide) gp⟩
    · refine ⟨(show (3 : Nat) < 1000 by decide), fun y hy => ?_⟩
      simp only [List.mem_cons, List.not_mem_nil, or_false] at hy
      rcases hy with rfl | rfl | rfl
      · exact gd_up (by decide) gp
      · exact gd_up (by decide) gr
      · trivial
  · refine tk_bnd (cracked_dr hc h1 h2) fun v hv => ?_
    exact tk_ret (two (gd_up (by decide) hv) (gd_up (by decide) gr))
  · refine tk_bnd (torn_dr hc m1 m4 (by omega) (by omega) h4) fun v hv => ?_
    exact tk_ret (two (gd_up (by decide) gp) (gd_up (by decide) hv))
  · cases rs with
    | nil => simp at h3
    | cons r0 rs =>
      obtain ⟨ns, rfl, hn⟩ := h4 r0 (by simp)
      rw [show oIx (.lst (.tup (ns.map D.int) :: rs)) (.int 0) = some (.tup (ns.map D.int)) from L2.atI_nat (j := 0) rfl, lft_some, bnd_ret, show items (.tup (ns.map D.int)) = some (ns.map D.int) from rfl, lft_some, bnd_ret]
      refine tk_bnd (take_ok (n := (m : Int)) (by omega) (by omega) hc) fun d hd => ?_
      obtain ⟨z, rfl, z0, z1⟩ := hd
      obtain ⟨i, rfl⟩ : ∃ i : Nat, z = (i : Int) := ⟨z.toNat, by omega⟩
      have hi : i < ns.length := by omega
      have ei : oIx (.lst (ns.map D.int)) (.int (i : Int)) = some (.int ns[i]) := ix_ok (show items (.lst (ns.map D.int)) = some _ from rfl) (List.getElem?_eq_getElem hi)
      rw [ei, lft_some, bnd_ret, oAdd_int, lft_some, bnd_ret]
      refine tk_bnd (take_ok (n := 99) (by decide) (by decide) hc) fun d hd => ?_
      obtain ⟨u, rfl, u0, u1⟩ := hd
      rw [oAdd_int, lft_some, bnd_ret, oIntOf_int, lft_some, bnd_ret, mod_pos (j := 100) (by decide), lft_some, bnd_ret]
      obtain ⟨es, f1, f2, f3⟩ := set1_dr (k := 3) (ds := ns.map D.int) (d := .int ((ns[i] + 1 + u).fmod 100)) z0 (by rw [List.length_map]; omega) (fun x hx => by obtain ⟨w, _, rfl⟩ := List.mem_map.1 hx; trivial) trivial
      rw [f1, lft_some, bnd_ret, show oInt? (.int 1) = some (some 1) from rfl, lft_some, bnd_ret, show oSl (.lst (.tup (ns.map D.int) :: rs)) (some 1) none = some (.lst (cut (.tup (ns.map D.int) :: rs) (some 1) none)) from rfl, lft_some, bnd_ret, cut_drop, show items (.lst (List.drop 1 (.tup (ns.map D.int) :: rs))) = some rs from rfl, lft_some, bnd_ret]
      rw [List.length_cons] at h3
      rw [show oAdd (.lst [.lst es]) (.lst rs) = some (.lst ([.lst es] ++ rs)) from if_pos (by show 1 + rs.length < tooLong; unfold tooLong; omega), lft_some, bnd_ret]
      refine tk_ret (two (gd_up (by decide) gp) ⟨by show rs.length + 1 < 1000; omega, fun x hx => ?_⟩)
      rcases List.mem_cons.1 hx with w | w
      · rw [w]
        exact ⟨by rw [f2, List.length_map]; omega, f3⟩
      · exact gd_up (by decide) (gr.2 x (List.mem_cons_of_mem _ w))
theorem begun_dr {ns : List Int} (n1 : 1 ≤ ns.length) (n4 : ns.length ≤ 4) : Tk cells (m__law_begun cells [.lst (ns.map D.int)]) (gd 3) := by
  have smI : ∀ x ∈ ns.map D.int, gd 2 x := fun x hx => by
    obtain ⟨i, _, rfl⟩ := List.mem_map.1 hx
    trivial
  have ll : (ns.map D.int).length = ns.length := List.length_map _
  unfold m__law_begun
  simp only [bnd_ret, bnd_bnd, lft_some, List.append_nil, mk0]
  refine tk_bnd (take_ok (n := 8) (by decide) (by decide) hc) fun d hd => ?_
  obtain ⟨k, rfl, k0, k1⟩ := hd
  rw [show tru (.int k) = some (k != 0) from rfl, lft_some, bnd_ret]
  refine tk_ite (fun _ => tk_ret ⟨by omega, smI⟩) fun _ => ?_
  refine tk_bnd (take_ok (n := 4) (by decide) (by decide) hc) fun d hd => ?_
  obtain ⟨j, rfl, j0, j1⟩ := hd
  simp only [oEq_int, asB_bl, lft_some, bnd_ret]
  refine tk_ite (fun _ => ?_) fun _ => tk_ite (fun _ => tk_ret ⟨(show (0 : Nat) < 1000 by decide), fun x hx => nomatch hx⟩) fun _ => tk_ite (fun _ => ?_) fun _ => ?_
  · intro s hs
    obtain ⟨a, s1, e, h1, h2⟩ := rid_dr hc s hs
    exact ⟨a, s1, e, h1, gd_up (by decide) h2⟩
  · rw [show oMul (.lst (ns.map D.int)) (.int 5) = some (.lst (List.replicate 5 (ns.map D.int)).flatten) from if_pos ⟨by show (ns.map D.int).length * 5 < tooLong; unfold tooLong; omega, by decide⟩, lft_some, bnd_ret, show oInt? (.int 5) = some (some 5) from rfl, lft_some, bnd_ret]
    refine tk_lft (show oSl (.lst (List.replicate 5 (ns.map D.int)).flatten) none (some ((5 : Nat) : Int)) = some (.lst (cut (List.replicate 5 (ns.map D.int)).flatten none (some ((5 : Nat) : Int)))) from rfl) ?_
    rw [cut_takeN]
    refine ⟨by rw [List.length_take]; omega, fun x hx => ?_⟩
    obtain ⟨l, hl, hxl⟩ := List.mem_flatten.1 (List.mem_of_mem_take hx)
    rw [List.eq_of_mem_replicate hl] at hxl
    exact smI x hxl
  · rw [len_ok (show items (.lst (ns.map D.int)) = some _ from rfl), lft_some, bnd_ret]
    refine tk_bnd (take_ok (n := ((ns.map D.int).length : Int)) (by omega) (by omega) hc) fun d hd => ?_
    obtain ⟨z, rfl, z0, z1⟩ := hd
    rw [show oInt? (.int z) = some (some z) from rfl, lft_some, bnd_ret, show oSl (.lst (ns.map D.int)) none (some z) = some (.lst (cut (ns.map D.int) none (some z))) from rfl, lft_some, bnd_ret]
    refine tk_bnd (odd_dr hc 100) fun v hv => ?_
    have c1 : ∀ lo hi, (cut (ns.map D.int) lo hi).length ≤ 4 ∧ ∀ x ∈ cut (ns.map D.int) lo hi, gd 2 x := fun lo hi => by
      refine ⟨?_, fun x hx => smI x (List.mem_of_mem_drop (List.mem_of_mem_take hx))⟩
      unfold cut
      rw [List.length_take, List.length_drop]
      omega
    obtain ⟨a1, a2⟩ := c1 none (some z)
    obtain ⟨b1, b2⟩ := c1 (some (z + 1)) none
    rw [mk1, lft_some, bnd_ret, show oAdd (.lst (cut (ns.map D.int) none (some z))) (.lst [v]) = some (.lst (cut (ns.map D.int) none (some z) ++ [v])) from if_pos (by show _ + 1 < tooLong; unfold tooLong; omega), lft_some, bnd_ret, oAdd_int, lft_some, bnd_ret, show oInt? (.int (z + 1)) = some (some (z + 1)) from rfl, lft_some, bnd_ret, show oSl (.lst (ns.map D.int)) (some (z + 1)) none = some (.lst (cut (ns.map D.int) (some (z + 1)) none)) from rfl, lft_some, bnd_ret]
    refine tk_lft (show oAdd (.lst (cut (ns.map D.int) none (some z) ++ [v])) (.lst (cut (ns.map D.int) (some (z + 1)) none)) = some (.lst (cut (ns.map D.int) none (some z) ++ [v] ++ cut (ns.map D.int) (some (z + 1)) none)) from if_pos (by rw [List.length_append]; show _ + 1 + _ < tooLong; unfold tooLong; omega)) ?_
    refine ⟨by rw [List.length_append, List.length_append]; show _ + 1 + _ < 1000; omega, fun x hx => ?_⟩
    rcases List.mem_append.1 hx with w | w
    · rcases List.mem_append.1 w with w | w
      · exact a2 x w
      · rw [List.mem_singleton.1 w]; exact hv
    · exact b2 x w
end
end G_spreadhues_k59_whole_sights_checked

set_option Elab.async false
set_option linter.all false
set_option maxRecDepth 100000
set_option maxHeartbeats 2000000
namespace G_spreadhues_k59_whole_sights_checked
open PySem PySem.Spec PyProof.Rows L2 Dm
section
variable {cells : List Int} (hc : cells.length ≤ 63)
include hc
/-- so many colours -/
theorem ints_dr {m : Int} (m0 : 0 ≤ m) (m1 : m < 900) : Tk cells (bnd (lft (rg1 [.int m])) fun a => bnd (lft (mkL a)) fun a => lcM un1 (fun t => ret true) (fun t => m__law_colour cells []) a) (fun ds => ∃ ns : List Int, ds = ns.map D.int ∧ (ns.length : Int) = m ∧ ∀ k ∈ ns, 0 ≤ k ∧ k < 100) := by
  rw [rg1_ok m0 (by omega), lft_some, bnd_ret, mkL_ok (by rw [rgD_len]; omega), lft_some, bnd_ret]
  refine fun s hs => ?_
  obtain ⟨ds, s1, e, h1, h2, h3⟩ := tk_lcAll (P := fun d => ∃ k, d = .int k ∧ 0 ≤ k ∧ k < 100) (ds := rgD 0 m.toNat) (f := fun t => m__law_colour cells []) (un := un1) (fun d hd => ⟨d, rfl, colour_dr hc⟩) s hs
  obtain ⟨ns, rfl⟩ := ints_all fun d hd => let ⟨k, hk, _⟩ := h3 d hd; ⟨k, hk⟩
  rw [rgD_len, List.length_map] at h2
  refine ⟨_, s1, e, h1, ns, rfl, by omega, fun k hk => ?_⟩
  obtain ⟨k', e', b⟩ := h3 (.int k) (List.mem_map_of_mem hk)
  cases e'
  exact b
theorem tk_bnd3 {α β γ : Type} {P : γ → Prop} {Q : β → Prop} {m : MS Hd α} {f : α → MS Hd γ} {k : γ → MS Hd β} (h : Tk cells (bnd m f) P) (hk : ∀ c, P c → Tk cells (k c) Q) : Tk cells (bnd m fun a => bnd (f a) k) Q := by
  rw [← bnd_bnd]
  exact tk_bnd h hk
end
theorem law_true (cells : List Int) (tot : Int) (hc : cells.length ≤ 63) : ∃ s, m_law cells ⟨0, 0, tot⟩ = .ok (.bl true) s := by
  have main : Tk cells (m_law cells) (fun d => d = .bl true) := by
    unfold m_law
    simp only [bnd_ret, bnd_bnd, lft_some, List.append_nil, mk0]
    refine tk_bnd (take_ok (n := 4) (by decide) (by decide) hc) fun d hd => ?_
    obtain ⟨k, rfl, k0, k1⟩ := hd
    rw [oAdd_int, lft_some, bnd_ret]
    obtain ⟨m, hm⟩ : ∃ m : Nat, (m : Int) = 1 + k := ⟨(1 + k).toNat, by omega⟩
    rw [← hm]
    have m1 : 1 ≤ m := by omega
    have m4 : m ≤ 4 := by omega
    have dr := ints_dr hc (m := (m : Int)) (by omega) (by omega)
    rw [rg1_ok (by omega) (by omega), lft_some, bnd_ret, Int.toNat_natCast, mkL_ok (by rw [rgD_len]; omega), lft_some, bnd_ret] at dr ⊢
    refine tk_bnd dr fun fs hfs => ?_
    obtain ⟨ns, rfl, hn, hcol⟩ := hfs
    have nl : ns.length = m := by omega
    have tf : oTuple (.lst (ns.map D.int)) = some (.tup (ns.map D.int)) := rfl
    refine tk_bnd (take_ok (n := 5) (by decide) (by decide) hc) fun d hd => ?_
    obtain ⟨tn, rfl, t0, t1⟩ := hd
    rw [rg1_ok t0 (by omega), lft_some, bnd_ret]
    refine tk_bnd (tk_forB 5 (fun n s => s.length = n ∧ ∀ t ∈ s, Sight m t) (n := 0) (by rw [rgD_len]; omega) ⟨rfl, fun t ht => nomatch ht⟩ fun d hd => ⟨d, rfl, fun n st hnn hst => ?_⟩) fun sights hsi => ?_
    · refine tk_bnd (take_ok (n := 4) (by decide) (by decide) hc) fun d hd => ?_
      obtain ⟨z1, rfl, _, _⟩ := hd
      refine tk_bnd (take_ok (n := 13) (by decide) (by decide) hc) fun d hd => ?_
      obtain ⟨z2, rfl, _, _⟩ := hd
      rw [mk3, lft_some, bnd_ret]
      refine tk_bnd (take_ok (n := 3) (by decide) (by decide) hc) fun d hd => ?_
      obtain ⟨z3, rfl, _, _⟩ := hd
      refine tk_bnd (P := fun d => ∃ z : Nat, d = .int (z : Int) ∧ z ≤ 12) (tk_ix (by omega) (by show z3 < 3; omega) fun d hd => ?_) fun d hd => ?_
      · simp only [List.mem_cons, List.not_mem_nil, or_false] at hd
        rcases hd with rfl | rfl | rfl
        · exact ⟨z1.toNat, by rw [Int.toNat_of_nonneg (by omega)], by omega⟩
        · exact ⟨z2.toNat, by rw [Int.toNat_of_nonneg (by omega)], by omega⟩
        · exact ⟨12, rfl, by decide⟩
      obtain ⟨z, rfl, hz⟩ := hd
      rw [rg1_ok (by omega) (by omega), lft_some, bnd_ret, Int.toNat_natCast, mkL_ok (by rw [rgD_len]; omega), lft_some, bnd_ret]
      refine tk_bnd (tk_lcAll (P := fun d => ∃ i j : Int, d = .tup [.int i, .int j]) fun d hd => ⟨d, rfl, ?_⟩) fun ps hps => ?_
      · refine tk_bnd (take_ok (n := (m : Int)) (by omega) (by omega) hc) fun d hd => ?_
        obtain ⟨i, rfl, _, _⟩ := hd
        refine tk_bnd (colour_dr hc) fun d hd => ?_
        obtain ⟨j, rfl, _, _⟩ := hd
        rw [mk2]
        exact tk_lft rfl ⟨i, j, rfl⟩
      obtain ⟨p1, p2⟩ := hps
      rw [rgD_len] at p1
      rw [tf, lft_some, bnd_ret, mk1, lft_some, bnd_ret, bnd_ret]
      refine tk_bnd (tk_forB 12 (fun n s => s.length = n + 1 ∧ ∀ r ∈ s, ∃ ks : List Int, r = .tup (ks.map D.int) ∧ ks.length = m) (n := 0) (by rw [rgD_len]; omega) ⟨rfl, fun r hr => ⟨ns, List.mem_singleton.1 hr, nl⟩⟩ fun d hd => ⟨d, rfl, fun n st hnn hst => ?_⟩) fun rs hrs => ?_
      · rw [bnd_ret, mkL_ok (by rw [rgD_len]; omega), lft_some, bnd_ret]
        refine tk_bnd dr fun cs hcs => ?_
        obtain ⟨ks, rfl, hk, _⟩ := hcs
        rw [show oTuple (.lst (ks.map D.int)) = some (.tup (ks.map D.int)) from rfl, lft_some, bnd_ret, Dm.app_ok (by omega), lft_some, bnd_ret]
        refine tk_ret ⟨by rw [List.length_append, hst.1]; rfl, fun r hr => ?_⟩
        rcases List.mem_append.1 hr with q | q
        · exact hst.2 r q
        · exact ⟨ks, List.mem_singleton.1 q, by omega⟩
      obtain ⟨r1, r2⟩ := hrs
      rw [rgD_len] at r1
      rw [mk2, Option.map_some, lft_some, bnd_ret, Dm.app_ok (by omega), lft_some, bnd_ret]
      refine tk_ret ⟨by rw [List.length_append, hst.1]; rfl, fun t ht => ?_⟩
      rcases List.mem_append.1 ht with q | q
      · exact hst.2 t q
      · exact ⟨ps, rs, List.mem_singleton.1 q, by omega, p2, by omega, r2⟩
    obtain ⟨s1, s2⟩ := hsi
    rw [rgD_len] at s1
    have gf : gd 2 (.lst (ns.map D.int)) := ⟨by rw [List.length_map]; omega, fun x hx => by
      obtain ⟨i, _, rfl⟩ := List.mem_map.1 hx
      trivial⟩
    have gs : gd 8 (.lst sights) := gd_up (k := 6) (by decide) ⟨by omega, fun t ht => sight_gd m4 (s2 t ht)⟩
    refine tk_bnd (take_ok (n := 2) (by decide) (by decide) hc) fun d hd => ?_
    obtain ⟨u, rfl, _, _⟩ := hd
    rw [show tru (.int u) = some (u != 0) from rfl, lft_some, bnd_ret]
    refine tk_bnd (P := fun d => d = .non ∨ ∃ v, d = .int v ∧ 0 ≤ v) (tk_ite (fun _ => tk_ret (.inl rfl)) fun _ => ?_) fun up hup => ?_
    · intro s hs
      obtain ⟨a, s1, e, h1, v, hv, hv0, _⟩ := take_ok (n := 5) (by decide) (by decide) hc s hs
      exact ⟨a, s1, e, h1, .inr ⟨v, hv, hv0⟩⟩
    obtain ⟨lim, lim0, hlim, hu⟩ : ∃ lim : Int, 0 ≤ lim ∧ (∀ k : D → MS Hd D, (bnd (lft (oIs up .non)) fun a => bnd (lft (asB a)) fun a => bnd (if a = true then ret (.int 3) else ret up) k) = k (.int lim)) ∧ ((up = .non ∧ lim = 3) ∨ up = .int lim) := by
      rcases hup with rfl | ⟨v, rfl, hv0⟩
      · exact ⟨3, by decide, fun k => rfl, .inl ⟨rfl, rfl⟩⟩
      · exact ⟨v, hv0, fun k => rfl, .inr rfl⟩
    rw [hlim]
    refine tk_bnd (lists_ok hc 8 gs) fun pl hpl => ?_
    obtain ⟨p1, p2⟩ := hpl
    rw [bare_ok Hd 8 p2, bnd_ret]
    refine tk_bnd (lists_ok hc 8 (gd_up (j := 8) (by decide) gf)) fun fl hfl => ?_
    obtain ⟨f1, f2⟩ := hfl
    have nb := ne_bare p2 (by decide)
    simp only [asked_ok Hd (k := 4) f2 p2 hu, bnd_ret, due_ok2 Hd gf gs, resD_eq lim f1 p1, ne_res gf gs, lft_some, asB_bl, Bool.false_eq_true, if_false, bare_ok Hd 8 p2, nb]
    rw [rg1_ok (by decide) (by decide), lft_some, bnd_ret]
    refine tk_bnd (tk_forU fun d hd => ⟨d, rfl, ?_⟩) fun r hr => ?_
    · rw [show items (.lst sights) = some sights from rfl, lft_some, bnd_ret, mkL_ok (by omega), lft_some, bnd_ret]
      refine tk_bnd (tk_lcAll (P := gd 6) fun t ht => ⟨t, rfl, wrong_dr hc m1 m4 (s2 t ht)⟩) fun sp hsp => ?_
      obtain ⟨q1, q2⟩ := hsp
      refine tk_bnd (take_ok (n := 16) (by decide) (by decide) hc) fun d hd => ?_
      obtain ⟨w, rfl, _, _⟩ := hd
      rw [oEq_int, lft_some, bnd_ret, asB_bl, lft_some, bnd_ret]
      refine tk_bnd (P := gd 8) (tk_ite (fun _ => ?_) fun _ => tk_ret (gd_up (k := 7) (by decide) ⟨by omega, q2⟩)) fun sq hsq => ?_
      · exact tk_bnd (rid_dr hc) fun v hv => tk_ret (gd_up (by decide) hv)
      refine tk_bnd (begun_dr hc (by omega) (by omega)) fun bg hbg => ?_
      rw [due_ok2 Hd hbg hsq, bnd_ret]
      refine tk_bnd (lists_ok hc 8 hsq) fun hd2 hhd => ?_
      obtain ⟨g1, g2⟩ := hhd
      have nb2 := ne_bare g2 (by decide)
      simp only [bare_ok Hd 8 g2, bnd_ret, asked_ok Hd (k := 4) hbg g2 hu, resD_eq lim rfl g1, ne_res hbg hsq, lft_some, asB_bl, Bool.false_eq_true, if_false, nb2]
      have rt2 : ∀ k : Bool → MS Hd Bool, (bnd (lft (oIsA .tuple (resD bg sq lim))) fun a => bnd (lft (tru a)) fun a => bnd (if a = true then bnd (m__law_tuples 8 Hd [resD bg sq lim]) fun a => bnd (lft (tru a)) fun b => ret !b else ret false) k) = k false := fun k => by
        have := congrArg (fun m => bnd m k) (res_tuples Hd (f := bg) (s := sq) (lim := lim) hsq)
        simp only [bnd_bnd, bnd_ret] at this
        exact this
      rw [rt2, if_neg Bool.false_ne_true, bnd_ret, if_neg Bool.false_ne_true]
      exact tk_ret rfl
    · subst hr
      rw [frD_nx]
      have ge : gd 8 (.lst []) := ⟨(show (0 : Nat) < 1000 by decide), fun x hx => nomatch hx⟩
      have fz : fstW badC 0 (ns.map D.int) = none := fstW_none.2 fun d hd => by
        obtain ⟨k, hk, rfl⟩ := List.mem_map.1 hd
        have := hcol k hk
        rw [bad_unit]
        show (if (decide (0 ≤ k) && decide (k ≤ 99)) = true then none else some ()) = none
        rw [decide_eq_true this.1, decide_eq_true (by omega), if_pos (show (true && true) = true from rfl)]
      have fn : firstsN (.lst (ns.map D.int)) = none := by
        unfold firstsN
        show (if (decide (1 ≤ (ns.map D.int).length) && decide ((ns.map D.int).length ≤ 4)) = true then (fstW badC 0 (ns.map D.int)).map Prod.fst else some 0) = none
        rw [List.length_map, decide_eq_true (by omega), decide_eq_true (by omega), if_pos (show (true && true) = true from rfl), fz]
        rfl
      have se : sightsE (.lst (ns.map D.int)) (.lst []) lim = none := by
        unfold sightsE
        show (if lim < ((0 : Nat) : Int) then some (0, _) else fstW _ 0 []) = none
        rw [if_neg (by omega)]
        rfl
      have fin : resD (.lst (ns.map D.int)) (.lst []) lim = .tup [] := by
        unfold resD
        rw [fn]
        dsimp only
        rw [se]
        dsimp only
        rw [bareD, baresD]
      rw [asked_ok Hd (k := 4) gf ge hu, bnd_ret, fin]
      exact tk_lft (oEq_of (eqD_tup [] [])) rfl
  obtain ⟨d, s, e, _, hd⟩ := main ⟨0, 0, tot⟩ ⟨Int.le_refl _, by show (0 : Int) ≤ cells.length; omega, Int.le_refl _⟩
  subst hd
  exact ⟨s, e⟩
end G_spreadhues_k59_whole_sights_checked

namespace G_spreadhues_k59_whole_sights_checked
open PySem PySem.Spec PyProof.Rows L2 Dm
theorem all_mk {l : PySem.W.OpenLaw} {w : World} {K : PySem.W.Frag} {h : Heap} {mg : Str → Option Value} {fa f0 f1 f2 f3 f4 f5 f6 f7 f8 f9 f10 f11 f12 f13 f14 f15 f16 f17 f18 f19 f20 f21 f22 f23 f24 f25 f26 f27 f28 f29 f30 f31 C0 C1 C2 C3 C4 I0 I1 I2 I3 q0 q10 : Addr}
    (hm : ∀ (cells : List Int) (tot : Int), cells.length ≤ 63 → ∃ s, m_law cells ⟨0, 0, tot⟩ = .ok (.bl true) s) (X : K.In h) (G : h.Ns mainGlobals mg) (hfa : mg "law" = some (.ref fa))
    {od0 an0 : Option Addr} {sl0 : Array (Option Value)} {oc0 kV0 dc0 pm0 cd0 ct0 : Value}
    {qc0 : Value} {qd0 : Option Addr} {qn0 : Nat} {qs0 : Array (Option Value)}
    {od1 an1 : Option Addr} {sl1 : Array (Option Value)} {oc1 kV1 dc1 pm1 cd1 ct1 : Value}
    {od2 an2 : Option Addr} {sl2 : Array (Option Value)} {oc2 kV2 dc2 pm2 cd2 ct2 : Value}
    {od3 an3 : Option Addr} {sl3 : Array (Option Value)} {oc3 kV3 dc3 pm3 cd3 ct3 : Value}
    {od4 an4 : Option Addr} {sl4 : Array (Option Value)} {oc4 kV4 dc4 pm4 cd4 ct4 : Value}
    {od5 an5 : Option Addr} {sl5 : Array (Option Value)} {oc5 kV5 dc5 pm5 cd5 ct5 : Value}
    {od6 an6 : Option Addr} {sl6 : Array (Option Value)} {oc6 kV6 dc6 pm6 cd6 ct6 : Value}
    {od7 an7 : Option Addr} {sl7 : Array (Option Value)} {oc7 kV7 dc7 pm7 cd7 ct7 : Value}
    {od8 an8 : Option Addr} {sl8 : Array (Option Value)} {oc8 kV8 dc8 pm8 cd8 ct8 : Value}
    {od9 an9 : Option Addr} {sl9 : Array (Option Value)} {oc9 kV9 dc9 pm9 cd9 ct9 : Value}
    {od10 an10 : Option Addr} {sl10 : Array (Option Value)} {oc10 kV10 dc10 pm10 cd10 ct10 : Value}
    {t10_0 : Tok}
    {qc10 : Value} {qd10 : Option Addr} {qn10 : Nat} {qs10 : Array (Option Value)}
    {od11 an11 : Option Addr} {sl11 : Array (Option Value)} {oc11 kV11 dc11 pm11 cd11 ct11 : Value}
    {od12 an12 : Option Addr} {sl12 : Array (Option Value)} {oc12 kV12 dc12 pm12 cd12 ct12 : Value}
    {od13 an13 : Option Addr} {sl13 : Array (Option Value)} {oc13 kV13 dc13 pm13 cd13 ct13 : Value}
    {od14 an14 : Option Addr} {sl14 : Array (Option Value)} {oc14 kV14 dc14 pm14 cd14 ct14 : Value}
    {od15 an15 : Option Addr} {sl15 : Array (Option Value)} {oc15 kV15 dc15 pm15 cd15 ct15 : Value}
    {od16 an16 : Option Addr} {sl16 : Array (Option Value)} {oc16 kV16 dc16 pm16 cd16 ct16 : Value}
    {od17 an17 : Option Addr} {sl17 : Array (Option Value)} {oc17 kV17 dc17 pm17 cd17 ct17 : Value}
    {od18 an18 : Option Addr} {sl18 : Array (Option Value)} {oc18 kV18 dc18 pm18 cd18 ct18 : Value}
    {od19 an19 : Option Addr} {sl19 : Array (Option Value)} {oc19 kV19 dc19 pm19 cd19 ct19 : Value}
    {od20 an20 : Option Addr} {sl20 : Array (Option Value)} {oc20 kV20 dc20 pm20 cd20 ct20 : Value}
    {od21 an21 : Option Addr} {sl21 : Array (Option Value)} {oc21 kV21 dc21 pm21 cd21 ct21 : Value}
    {od22 an22 : Option Addr} {sl22 : Array (Option Value)} {oc22 kV22 dc22 pm22 cd22 ct22 : Value}
    {od23 an23 : Option Addr} {sl23 : Array (Option Value)} {oc23 kV23 dc23 pm23 cd23 ct23 : Value}
    {od24 an24 : Option Addr} {sl24 : Array (Option Value)} {oc24 kV24 dc24 pm24 cd24 ct24 : Value}
    {od25 an25 : Option Addr} {sl25 : Array (Option Value)} {oc25 kV25 dc25 pm25 cd25 ct25 : Value}
    {od26 an26 : Option Addr} {sl26 : Array (Option Value)} {oc26 kV26 dc26 pm26 cd26 ct26 : Value}
    {od27 an27 : Option Addr} {sl27 : Array (Option Value)} {oc27 kV27 dc27 pm27 cd27 ct27 : Value}
    {od28 an28 : Option Addr} {sl28 : Array (Option Value)} {oc28 kV28 dc28 pm28 cd28 ct28 : Value}
    {od29 an29 : Option Addr} {sl29 : Array (Option Value)} {oc29 kV29 dc29 pm29 cd29 ct29 : Value}
    {od30 an30 : Option Addr} {sl30 : Array (Option Value)} {oc30 kV30 dc30 pm30 cd30 ct30 : Value}
    {od31 an31 : Option Addr} {sl31 : Array (Option Value)} {oc31 kV31 dc31 pm31 cd31 ct31 : Value}
    {nmC0 qnC0 : Str} {N0 : Addr} {bs0 bm0 : List Value} {sn0 : List Str} {sub0 : List Value} {ab0 : Bool} {col0 : Option Bool} {dd0 : Option Addr} {m00 m10 m20 m30 m50 : Option Value}
    {odI0 anI0 : Option Addr} {slI0 : Array (Option Value)} {ocI0 kVI0 dcI0 pmI0 cdI0 ctI0 : Value}
    {nmC1 qnC1 : Str} {N1 : Addr} {bs1 bm1 : List Value} {sn1 : List Str} {sub1 : List Value} {ab1 : Bool} {col1 : Option Bool} {dd1 : Option Addr} {m01 m11 m21 m31 m51 : Option Value}
    {odI1 anI1 : Option Addr} {slI1 : Array (Option Value)} {ocI1 kVI1 dcI1 pmI1 cdI1 ctI1 : Value}
    {nmC2 qnC2 : Str} {N2 : Addr} {bs2 bm2 : List Value} {sn2 : List Str} {sub2 : List Value} {ab2 : Bool} {col2 : Option Bool} {dd2 : Option Addr} {m02 m12 m22 m32 m52 : Option Value}
    {odI2 anI2 : Option Addr} {slI2 : Array (Option Value)} {ocI2 kVI2 dcI2 pmI2 cdI2 ctI2 : Value}
    {nmC3 qnC3 : Str} {N3 : Addr} {bs3 bm3 : List Value} {sn3 : List Str} {sub3 : List Value} {ab3 : Bool} {col3 : Option Bool} {dd3 : Option Addr} {m03 m13 m23 m33 m53 : Option Value}
    {odI3 anI3 : Option Addr} {slI3 : Array (Option Value)} {ocI3 kVI3 dcI3 pmI3 cdI3 ctI3 : Value}
    {ct_MOST_COLOUR : Tok}
    {ct_MOST_POURS : Tok}
    {ct_MOST_MARKS : Tok}
    {ct_MOST_SIGHTS : Tok}
    (a0 : PySem.W.nsIn K mainGlobals "is_whole" = some (some (.ref f0)))
    (l0 : K.lookup f0 = some ⟨oc0, od0, .func (PySem.W.fnOf "is_whole" "is_whole" (defArgs s_is_whole) (defBody s_is_whole) (defScope s_is_whole) (.ref q0) kV0 dc0 pm0 an0 cd0 ct0), sl0⟩)
    (c0 : PySem.W.codeIn K cd0 "is_whole" = true)
    (k0 : PySem.W.keepIn K (.ref f0) = true)
    (q0l : K.lookup q0 = some ⟨qc0, qd0, .seq #[.none, .none] qn0, qs0⟩)
    (a1 : PySem.W.nsIn K mainGlobals "is_sequence" = some (some (.ref f1)))
    (l1 : K.lookup f1 = some ⟨oc1, od1, .func (PySem.W.fnOf "is_sequence" "is_sequence" (defArgs s_is_sequence) (defBody s_is_sequence) (defScope s_is_sequence) .none kV1 dc1 pm1 an1 cd1 ct1), sl1⟩)
    (c1 : PySem.W.codeIn K cd1 "is_sequence" = true)
    (k1 : PySem.W.keepIn K (.ref f1) = true)
    (a2 : PySem.W.nsIn K mainGlobals "is_couple" = some (some (.ref f2)))
    (l2 : K.lookup f2 = some ⟨oc2, od2, .func (PySem.W.fnOf "is_couple" "is_couple" (defArgs s_is_couple) (defBody s_is_couple) (defScope s_is_couple) .none kV2 dc2 pm2 an2 cd2 ct2), sl2⟩)
    (c2 : PySem.W.codeIn K cd2 "is_couple" = true)
    (k2 : PySem.W.keepIn K (.ref f2) = true)
    (a3 : PySem.W.nsIn K mainGlobals "is_colour" = some (some (.ref f3)))
    (l3 : K.lookup f3 = some ⟨oc3, od3, .func (PySem.W.fnOf "is_colour" "is_colour" (defArgs s_is_colour) (defBody s_is_colour) (defScope s_is_colour) .none kV3 dc3 pm3 an3 cd3 ct3), sl3⟩)
    (c3 : PySem.W.codeIn K cd3 "is_colour" = true)
    (k3 : PySem.W.keepIn K (.ref f3) = true)
    (a4 : PySem.W.nsIn K mainGlobals "wrong_colour" = some (some (.ref f4)))
    (l4 : K.lookup f4 = some ⟨oc4, od4, .func (PySem.W.fnOf "wrong_colour" "wrong_colour" (defArgs s_wrong_colour) (defBody s_wrong_colour) (defScope s_wrong_colour) .none kV4 dc4 pm4 an4 cd4 ct4), sl4⟩)
    (c4 : PySem.W.codeIn K cd4 "wrong_colour" = true)
    (k4 : PySem.W.keepIn K (.ref f4) = true)
    (a5 : PySem.W.nsIn K mainGlobals "check_marks" = some (some (.ref f5)))
    (l5 : K.lookup f5 = some ⟨oc5, od5, .func (PySem.W.fnOf "check_marks" "check_marks" (defArgs s_check_marks) (defBody s_check_marks) (defScope s_check_marks) .none kV5 dc5 pm5 an5 cd5 ct5), sl5⟩)
    (c5 : PySem.W.codeIn K cd5 "check_marks" = true)
    (k5 : PySem.W.keepIn K (.ref f5) = true)
    (a6 : PySem.W.nsIn K mainGlobals "check_script" = some (some (.ref f6)))
    (l6 : K.lookup f6 = some ⟨oc6, od6, .func (PySem.W.fnOf "check_script" "check_script" (defArgs s_check_script) (defBody s_check_script) (defScope s_check_script) .none kV6 dc6 pm6 an6 cd6 ct6), sl6⟩)
    (c6 : PySem.W.codeIn K cd6 "check_script" = true)
    (k6 : PySem.W.keepIn K (.ref f6) = true)
    (a7 : PySem.W.nsIn K mainGlobals "_pour_fault" = some (some (.ref f7)))
    (l7 : K.lookup f7 = some ⟨oc7, od7, .func (PySem.W.fnOf "_pour_fault" "_pour_fault" (defArgs s__pour_fault) (defBody s__pour_fault) (defScope s__pour_fault) .none kV7 dc7 pm7 an7 cd7 ct7), sl7⟩)
    (c7 : PySem.W.codeIn K cd7 "_pour_fault" = true)
    (k7 : PySem.W.keepIn K (.ref f7) = true)
    (a8 : PySem.W.nsIn K mainGlobals "check_firsts" = some (some (.ref f8)))
    (l8 : K.lookup f8 = some ⟨oc8, od8, .func (PySem.W.fnOf "check_firsts" "check_firsts" (defArgs s_check_firsts) (defBody s_check_firsts) (defScope s_check_firsts) .none kV8 dc8 pm8 an8 cd8 ct8), sl8⟩)
    (c8 : PySem.W.codeIn K cd8 "check_firsts" = true)
    (k8 : PySem.W.keepIn K (.ref f8) = true)
    (a9 : PySem.W.nsIn K mainGlobals "_is_due" = some (some (.ref f9)))
    (l9 : K.lookup f9 = some ⟨oc9, od9, .func (PySem.W.fnOf "_is_due" "_is_due" (defArgs s__is_due) (defBody s__is_due) (defScope s__is_due) .none kV9 dc9 pm9 an9 cd9 ct9), sl9⟩)
    (c9 : PySem.W.codeIn K cd9 "_is_due" = true)
    (k9 : PySem.W.keepIn K (.ref f9) = true)
    (a10 : PySem.W.nsIn K mainGlobals "check_sights" = some (some (.ref f10)))
    (l10 : K.lookup f10 = some ⟨oc10, od10, .func (PySem.W.fnOf "check_sights" "check_sights" (defArgs s_check_sights) (defBody s_check_sights) (defScope s_check_sights) (.ref q10) kV10 dc10 pm10 an10 cd10 ct10), sl10⟩)
    (c10 : PySem.W.codeIn K cd10 "check_sights" = true)
    (k10 : PySem.W.keepIn K (.ref f10) = true)
    (q10l : K.lookup q10 = some ⟨qc10, qd10, .seq #[.int 3 t10_0] qn10, qs10⟩)
    (a11 : PySem.W.nsIn K mainGlobals "_sight_fault" = some (some (.ref f11)))
    (l11 : K.lookup f11 = some ⟨oc11, od11, .func (PySem.W.fnOf "_sight_fault" "_sight_fault" (defArgs s__sight_fault) (defBody s__sight_fault) (defScope s__sight_fault) .none kV11 dc11 pm11 an11 cd11 ct11), sl11⟩)
    (c11 : PySem.W.codeIn K cd11 "_sight_fault" = true)
    (k11 : PySem.W.keepIn K (.ref f11) = true)
    (a12 : PySem.W.nsIn K mainGlobals "_is_row" = some (some (.ref f12)))
    (l12 : K.lookup f12 = some ⟨oc12, od12, .func (PySem.W.fnOf "_is_row" "_is_row" (defArgs s__is_row) (defBody s__is_row) (defScope s__is_row) .none kV12 dc12 pm12 an12 cd12 ct12), sl12⟩)
    (c12 : PySem.W.codeIn K cd12 "_is_row" = true)
    (k12 : PySem.W.keepIn K (.ref f12) = true)
    (a13 : PySem.W.nsIn K mainGlobals "_law_hand" = some (some (.ref f13)))
    (l13 : K.lookup f13 = some ⟨oc13, od13, .func (PySem.W.fnOf "_law_hand" "_law_hand" (defArgs s__law_hand) (defBody s__law_hand) (defScope s__law_hand) .none kV13 dc13 pm13 an13 cd13 ct13), sl13⟩)
    (c13 : PySem.W.codeIn K cd13 "_law_hand" = true)
    (k13 : PySem.W.keepIn K (.ref f13) = true)
    (a14 : PySem.W.nsIn K mainGlobals "_law_mixed" = some (some (.ref f14)))
    (l14 : K.lookup f14 = some ⟨oc14, od14, .func (PySem.W.fnOf "_law_mixed" "_law_mixed" (defArgs s__law_mixed) (defBody s__law_mixed) (defScope s__law_mixed) .none kV14 dc14 pm14 an14 cd14 ct14), sl14⟩)
    (c14 : PySem.W.codeIn K cd14 "_law_mixed" = true)
    (k14 : PySem.W.keepIn K (.ref f14) = true)
    (a15 : PySem.W.nsIn K mainGlobals "_law_take" = some (some (.ref f15)))
    (l15 : K.lookup f15 = some ⟨oc15, od15, .func (PySem.W.fnOf "_law_take" "_law_take" (defArgs s__law_take) (defBody s__law_take) (defScope s__law_take) .none kV15 dc15 pm15 an15 cd15 ct15), sl15⟩)
    (c15 : PySem.W.codeIn K cd15 "_law_take" = true)
    (k15 : PySem.W.keepIn K (.ref f15) = true)
    (a16 : PySem.W.nsIn K mainGlobals "_law_colour" = some (some (.ref f16)))
    (l16 : K.lookup f16 = some ⟨oc16, od16, .func (PySem.W.fnOf "_law_colour" "_law_colour" (defArgs s__law_colour) (defBody s__law_colour) (defScope s__law_colour) .none kV16 dc16 pm16 an16 cd16 ct16), sl16⟩)
    (c16 : PySem.W.codeIn K cd16 "_law_colour" = true)
    (k16 : PySem.W.keepIn K (.ref f16) = true)
    (a17 : PySem.W.nsIn K mainGlobals "_law_tuples" = some (some (.ref f17)))
    (l17 : K.lookup f17 = some ⟨oc17, od17, .func (PySem.W.fnOf "_law_tuples" "_law_tuples" (defArgs s__law_tuples) (defBody s__law_tuples) (defScope s__law_tuples) .none kV17 dc17 pm17 an17 cd17 ct17), sl17⟩)
    (c17 : PySem.W.codeIn K cd17 "_law_tuples" = true)
    (k17 : PySem.W.keepIn K (.ref f17) = true)
    (a18 : PySem.W.nsIn K mainGlobals "_law_bare" = some (some (.ref f18)))
    (l18 : K.lookup f18 = some ⟨oc18, od18, .func (PySem.W.fnOf "_law_bare" "_law_bare" (defArgs s__law_bare) (defBody s__law_bare) (defScope s__law_bare) .none kV18 dc18 pm18 an18 cd18 ct18), sl18⟩)
    (c18 : PySem.W.codeIn K cd18 "_law_bare" = true)
    (k18 : PySem.W.keepIn K (.ref f18) = true)
    (a19 : PySem.W.nsIn K mainGlobals "_law_lists" = some (some (.ref f19)))
    (l19 : K.lookup f19 = some ⟨oc19, od19, .func (PySem.W.fnOf "_law_lists" "_law_lists" (defArgs s__law_lists) (defBody s__law_lists) (defScope s__law_lists) .none kV19 dc19 pm19 an19 cd19 ct19), sl19⟩)
    (c19 : PySem.W.codeIn K cd19 "_law_lists" = true)
    (k19 : PySem.W.keepIn K (.ref f19) = true)
    (a20 : PySem.W.nsIn K mainGlobals "_law_odd" = some (some (.ref f20)))
    (l20 : K.lookup f20 = some ⟨oc20, od20, .func (PySem.W.fnOf "_law_odd" "_law_odd" (defArgs s__law_odd) (defBody s__law_odd) (defScope s__law_odd) .none kV20 dc20 pm20 an20 cd20 ct20), sl20⟩)
    (c20 : PySem.W.codeIn K cd20 "_law_odd" = true)
    (k20 : PySem.W.keepIn K (.ref f20) = true)
    (a21 : PySem.W.nsIn K mainGlobals "_law_rid" = some (some (.ref f21)))
    (l21 : K.lookup f21 = some ⟨oc21, od21, .func (PySem.W.fnOf "_law_rid" "_law_rid" (defArgs s__law_rid) (defBody s__law_rid) (defScope s__law_rid) .none kV21 dc21 pm21 an21 cd21 ct21), sl21⟩)
    (c21 : PySem.W.codeIn K cd21 "_law_rid" = true)
    (k21 : PySem.W.keepIn K (.ref f21) = true)
    (a22 : PySem.W.nsIn K mainGlobals "_law_asked" = some (some (.ref f22)))
    (l22 : K.lookup f22 = some ⟨oc22, od22, .func (PySem.W.fnOf "_law_asked" "_law_asked" (defArgs s__law_asked) (defBody s__law_asked) (defScope s__law_asked) .none kV22 dc22 pm22 an22 cd22 ct22), sl22⟩)
    (c22 : PySem.W.codeIn K cd22 "_law_asked" = true)
    (k22 : PySem.W.keepIn K (.ref f22) = true)
    (a23 : PySem.W.nsIn K mainGlobals "_law_number" = some (some (.ref f23)))
    (l23 : K.lookup f23 = some ⟨oc23, od23, .func (PySem.W.fnOf "_law_number" "_law_number" (defArgs s__law_number) (defBody s__law_number) (defScope s__law_number) .none kV23 dc23 pm23 an23 cd23 ct23), sl23⟩)
    (c23 : PySem.W.codeIn K cd23 "_law_number" = true)
    (k23 : PySem.W.keepIn K (.ref f23) = true)
    (a24 : PySem.W.nsIn K mainGlobals "_law_hues" = some (some (.ref f24)))
    (l24 : K.lookup f24 = some ⟨oc24, od24, .func (PySem.W.fnOf "_law_hues" "_law_hues" (defArgs s__law_hues) (defBody s__law_hues) (defScope s__law_hues) .none kV24 dc24 pm24 an24 cd24 ct24), sl24⟩)
    (c24 : PySem.W.codeIn K cd24 "_law_hues" = true)
    (k24 : PySem.W.keepIn K (.ref f24) = true)
    (a25 : PySem.W.nsIn K mainGlobals "_law_pours" = some (some (.ref f25)))
    (l25 : K.lookup f25 = some ⟨oc25, od25, .func (PySem.W.fnOf "_law_pours" "_law_pours" (defArgs s__law_pours) (defBody s__law_pours) (defScope s__law_pours) .none kV25 dc25 pm25 an25 cd25 ct25), sl25⟩)
    (c25 : PySem.W.codeIn K cd25 "_law_pours" = true)
    (k25 : PySem.W.keepIn K (.ref f25) = true)
    (a26 : PySem.W.nsIn K mainGlobals "_law_due" = some (some (.ref f26)))
    (l26 : K.lookup f26 = some ⟨oc26, od26, .func (PySem.W.fnOf "_law_due" "_law_due" (defArgs s__law_due) (defBody s__law_due) (defScope s__law_due) .none kV26 dc26 pm26 an26 cd26 ct26), sl26⟩)
    (c26 : PySem.W.codeIn K cd26 "_law_due" = true)
    (k26 : PySem.W.keepIn K (.ref f26) = true)
    (a27 : PySem.W.nsIn K mainGlobals "_law_cracked" = some (some (.ref f27)))
    (l27 : K.lookup f27 = some ⟨oc27, od27, .func (PySem.W.fnOf "_law_cracked" "_law_cracked" (defArgs s__law_cracked) (defBody s__law_cracked) (defScope s__law_cracked) .none kV27 dc27 pm27 an27 cd27 ct27), sl27⟩)
    (c27 : PySem.W.codeIn K cd27 "_law_cracked" = true)
    (k27 : PySem.W.keepIn K (.ref f27) = true)
    (a28 : PySem.W.nsIn K mainGlobals "_law_torn" = some (some (.ref f28)))
    (l28 : K.lookup f28 = some ⟨oc28, od28, .func (PySem.W.fnOf "_law_torn" "_law_torn" (defArgs s__law_torn) (defBody s__law_torn) (defScope s__law_torn) .none kV28 dc28 pm28 an28 cd28 ct28), sl28⟩)
    (c28 : PySem.W.codeIn K cd28 "_law_torn" = true)
    (k28 : PySem.W.keepIn K (.ref f28) = true)
    (a29 : PySem.W.nsIn K mainGlobals "_law_wrong" = some (some (.ref f29)))
    (l29 : K.lookup f29 = some ⟨oc29, od29, .func (PySem.W.fnOf "_law_wrong" "_law_wrong" (defArgs s__law_wrong) (defBody s__law_wrong) (defScope s__law_wrong) .none kV29 dc29 pm29 an29 cd29 ct29), sl29⟩)
    (c29 : PySem.W.codeIn K cd29 "_law_wrong" = true)
    (k29 : PySem.W.keepIn K (.ref f29) = true)
    (a30 : PySem.W.nsIn K mainGlobals "_law_begun" = some (some (.ref f30)))
    (l30 : K.lookup f30 = some ⟨oc30, od30, .func (PySem.W.fnOf "_law_begun" "_law_begun" (defArgs s__law_begun) (defBody s__law_begun) (defScope s__law_begun) .none kV30 dc30 pm30 an30 cd30 ct30), sl30⟩)
    (c30 : PySem.W.codeIn K cd30 "_law_begun" = true)
    (k30 : PySem.W.keepIn K (.ref f30) = true)
    (a31 : PySem.W.nsIn K mainGlobals "law" = some (some (.ref f31)))
    (l31 : K.lookup f31 = some ⟨oc31, od31, .func (PySem.W.fnOf "law" "law" (defArgs s_law) (defBody s_law) (defScope s_law) .none kV31 dc31 pm31 an31 cd31 ct31), sl31⟩)
    (c31 : PySem.W.codeIn K cd31 "law" = true)
    (k31 : PySem.W.keepIn K (.ref f31) = true)
    (C0a : PySem.W.nsIn K mainGlobals "HueError" = some (some (.ref C0)))
    (C1a : PySem.W.nsIn K mainGlobals "BadMarks" = some (some (.ref C1)))
    (C2a : PySem.W.nsIn K mainGlobals "BadScript" = some (some (.ref C2)))
    (C3a : PySem.W.nsIn K mainGlobals "BadFirsts" = some (some (.ref C3)))
    (C4a : PySem.W.nsIn K mainGlobals "BadSight" = some (some (.ref C4)))
    (x0 : K.lookup C1 = some (excClassObj nmC0 qnC0 C1 N0 bs0 bm0 true sn0 sub0 ab0 col0 dd0 m00 m10 m20 m30 m50 "ValueError.__new__"))
    (r0 : PySem.HandSPX.refsVE bm0 = true)
    (sa0 : PySem.W.findIn K (.ref C1) "__setattr__" = some (some (.builtin "object.__setattr__")))
    (eC0 : PySem.W.subIn K (.ref C1) (.type "BaseException") = some true)
    (tC0 : PySem.W.typeIn K (.ref C1) = some (.type "type"))
    (is0 : PySem.W.isClsIn K C1 = true)
    (kC0 : PySem.W.keepIn K (.ref C1) = true)
    (ga0 : PySem.W.findIn K (.ref C1) "__getattribute__" = some (some (.builtin "BaseException.__getattribute__")))
    (gg0 : PySem.W.findIn K (.ref C1) "__getattr__" = some none)
    (hd0 : PySem.W.hasDictIn K C1 = true)
    (i0 : PySem.W.findIn K (.ref C1) "__init__" = some (some (.ref I0)))
    (t0 : PySem.W.typeIn K (.ref I0) = some (.type "function"))
    (lI0 : K.lookup I0 = some ⟨ocI0, odI0, .func (PySem.W.fnOf "__init__" "BadMarks.__init__" (defArgs s_BadMarks) (defBody s_BadMarks) (defScope s_BadMarks) .none kVI0 dcI0 pmI0 anI0 cdI0 ctI0), slI0⟩)
    (cI0 : PySem.W.codeIn K cdI0 "BadMarks.__init__" = true)
    (kI0 : PySem.W.keepIn K (.ref I0) = true)
    (n0_marks : PySem.W.findIn K (.ref C1) "marks" = some none)
    (x1 : K.lookup C2 = some (excClassObj nmC1 qnC1 C2 N1 bs1 bm1 true sn1 sub1 ab1 col1 dd1 m01 m11 m21 m31 m51 "ValueError.__new__"))
    (r1 : PySem.HandSPX.refsVE bm1 = true)
    (sa1 : PySem.W.findIn K (.ref C2) "__setattr__" = some (some (.builtin "object.__setattr__")))
    (eC1 : PySem.W.subIn K (.ref C2) (.type "BaseException") = some true)
    (tC1 : PySem.W.typeIn K (.ref C2) = some (.type "type"))
    (is1 : PySem.W.isClsIn K C2 = true)
    (kC1 : PySem.W.keepIn K (.ref C2) = true)
    (ga1 : PySem.W.findIn K (.ref C2) "__getattribute__" = some (some (.builtin "BaseException.__getattribute__")))
    (gg1 : PySem.W.findIn K (.ref C2) "__getattr__" = some none)
    (hd1 : PySem.W.hasDictIn K C2 = true)
    (i1 : PySem.W.findIn K (.ref C2) "__init__" = some (some (.ref I1)))
    (t1 : PySem.W.typeIn K (.ref I1) = some (.type "function"))
    (lI1 : K.lookup I1 = some ⟨ocI1, odI1, .func (PySem.W.fnOf "__init__" "BadScript.__init__" (defArgs s_BadScript) (defBody s_BadScript) (defScope s_BadScript) .none kVI1 dcI1 pmI1 anI1 cdI1 ctI1), slI1⟩)
    (cI1 : PySem.W.codeIn K cdI1 "BadScript.__init__" = true)
    (kI1 : PySem.W.keepIn K (.ref I1) = true)
    (n1_index : PySem.W.findIn K (.ref C2) "index" = some none)
    (n1_what : PySem.W.findIn K (.ref C2) "what" = some none)
    (x2 : K.lookup C3 = some (excClassObj nmC2 qnC2 C3 N2 bs2 bm2 true sn2 sub2 ab2 col2 dd2 m02 m12 m22 m32 m52 "ValueError.__new__"))
    (r2 : PySem.HandSPX.refsVE bm2 = true)
    (sa2 : PySem.W.findIn K (.ref C3) "__setattr__" = some (some (.builtin "object.__setattr__")))
    (eC2 : PySem.W.subIn K (.ref C3) (.type "BaseException") = some true)
    (tC2 : PySem.W.typeIn K (.ref C3) = some (.type "type"))
    (is2 : PySem.W.isClsIn K C3 = true)
    (kC2 : PySem.W.keepIn K (.ref C3) = true)
    (ga2 : PySem.W.findIn K (.ref C3) "__getattribute__" = some (some (.builtin "BaseException.__getattribute__")))
    (gg2 : PySem.W.findIn K (.ref C3) "__getattr__" = some none)
    (hd2 : PySem.W.hasDictIn K C3 = true)
    (i2 : PySem.W.findIn K (.ref C3) "__init__" = some (some (.ref I2)))
    (t2 : PySem.W.typeIn K (.ref I2) = some (.type "function"))
    (lI2 : K.lookup I2 = some ⟨ocI2, odI2, .func (PySem.W.fnOf "__init__" "BadFirsts.__init__" (defArgs s_BadFirsts) (defBody s_BadFirsts) (defScope s_BadFirsts) .none kVI2 dcI2 pmI2 anI2 cdI2 ctI2), slI2⟩)
    (cI2 : PySem.W.codeIn K cdI2 "BadFirsts.__init__" = true)
    (kI2 : PySem.W.keepIn K (.ref I2) = true)
    (n2_index : PySem.W.findIn K (.ref C3) "index" = some none)
    (x3 : K.lookup C4 = some (excClassObj nmC3 qnC3 C4 N3 bs3 bm3 true sn3 sub3 ab3 col3 dd3 m03 m13 m23 m33 m53 "ValueError.__new__"))
    (r3 : PySem.HandSPX.refsVE bm3 = true)
    (sa3 : PySem.W.findIn K (.ref C4) "__setattr__" = some (some (.builtin "object.__setattr__")))
    (eC3 : PySem.W.subIn K (.ref C4) (.type "BaseException") = some true)
    (tC3 : PySem.W.typeIn K (.ref C4) = some (.type "type"))
    (is3 : PySem.W.isClsIn K C4 = true)
    (kC3 : PySem.W.keepIn K (.ref C4) = true)
    (ga3 : PySem.W.findIn K (.ref C4) "__getattribute__" = some (some (.builtin "BaseException.__getattribute__")))
    (gg3 : PySem.W.findIn K (.ref C4) "__getattr__" = some none)
    (hd3 : PySem.W.hasDictIn K C4 = true)
    (i3 : PySem.W.findIn K (.ref C4) "__init__" = some (some (.ref I3)))
    (t3 : PySem.W.typeIn K (.ref I3) = some (.type "function"))
    (lI3 : K.lookup I3 = some ⟨ocI3, odI3, .func (PySem.W.fnOf "__init__" "BadSight.__init__" (defArgs s_BadSight) (defBody s_BadSight) (defScope s_BadSight) .none kVI3 dcI3 pmI3 anI3 cdI3 ctI3), slI3⟩)
    (cI3 : PySem.W.codeIn K cdI3 "BadSight.__init__" = true)
    (kI3 : PySem.W.keepIn K (.ref I3) = true)
    (n3_index : PySem.W.findIn K (.ref C4) "index" = some none)
    (n3_what : PySem.W.findIn K (.ref C4) "what" = some none)
    (Bsp : PySem.W.specialIn K (.ref C0) "__getattribute__" = some (some (.builtin "type.__getattribute__")))
    (Brd : PySem.W.readsIn K C0 (.type "type") = true)
    (BvI : PySem.W.findCls K (.ref C0) (.type "type") "__init__" = some (.val (.builtin "ValueError.__init__")))
    (e0_0 : PySem.W.subIn K (.ref C1) (.ref C1) = some true)
    (e0_1 : PySem.W.subIn K (.ref C1) (.ref C2) = some false)
    (e0_2 : PySem.W.subIn K (.ref C1) (.ref C3) = some false)
    (e0_3 : PySem.W.subIn K (.ref C1) (.ref C4) = some false)
    (e1_0 : PySem.W.subIn K (.ref C2) (.ref C1) = some false)
    (e1_1 : PySem.W.subIn K (.ref C2) (.ref C2) = some true)
    (e1_2 : PySem.W.subIn K (.ref C2) (.ref C3) = some false)
    (e1_3 : PySem.W.subIn K (.ref C2) (.ref C4) = some false)
    (e2_0 : PySem.W.subIn K (.ref C3) (.ref C1) = some false)
    (e2_1 : PySem.W.subIn K (.ref C3) (.ref C2) = some false)
    (e2_2 : PySem.W.subIn K (.ref C3) (.ref C3) = some true)
    (e2_3 : PySem.W.subIn K (.ref C3) (.ref C4) = some false)
    (e3_0 : PySem.W.subIn K (.ref C4) (.ref C1) = some false)
    (e3_1 : PySem.W.subIn K (.ref C4) (.ref C2) = some false)
    (e3_2 : PySem.W.subIn K (.ref C4) (.ref C3) = some false)
    (e3_3 : PySem.W.subIn K (.ref C4) (.ref C4) = some true)
    (z_abs : PySem.W.nsIn K mainGlobals "abs" = some none)
    (z_all : PySem.W.nsIn K mainGlobals "all" = some none)
    (z_bool : PySem.W.nsIn K mainGlobals "bool" = some none)
    (z_enumerate : PySem.W.nsIn K mainGlobals "enumerate" = some none)
    (z_int : PySem.W.nsIn K mainGlobals "int" = some none)
    (z_isinstance : PySem.W.nsIn K mainGlobals "isinstance" = some none)
    (z_len : PySem.W.nsIn K mainGlobals "len" = some none)
    (z_list : PySem.W.nsIn K mainGlobals "list" = some none)
    (z_range : PySem.W.nsIn K mainGlobals "range" = some none)
    (z_tuple : PySem.W.nsIn K mainGlobals "tuple" = some none)
    (v_MOST_COLOUR : PySem.W.nsIn K mainGlobals "MOST_COLOUR" = some (some (.int 99 ct_MOST_COLOUR)))
    (v_MOST_POURS : PySem.W.nsIn K mainGlobals "MOST_POURS" = some (some (.int 12 ct_MOST_POURS)))
    (v_MOST_MARKS : PySem.W.nsIn K mainGlobals "MOST_MARKS" = some (some (.int 4 ct_MOST_MARKS)))
    (v_MOST_SIGHTS : PySem.W.nsIn K mainGlobals "MOST_SIGHTS" = some (some (.int 3 ct_MOST_SIGHTS)))
    : ∃ fd : FuncData, (∀ (s : Shared) (v : Value), BindsTo s fd ⟨[v], []⟩ [("_law_script", v)]) ∧ ∀ base : Heap, K.In base → base.Ns mainGlobals mg → FnG l.prog w K mg base (L2.CX l.prog w) 12 fa fd ["_law_script"] (spLaw K) := by
  have e := hfa.symm.trans (PySem.W.mg_of X G a31)
  cases e
  let A : Ad := { a_is_whole := f0, d_is_whole := (PySem.W.fnOf "is_whole" "is_whole" (defArgs s_is_whole) (defBody s_is_whole) (defScope s_is_whole) (.ref q0) kV0 dc0 pm0 an0 cd0 ct0), a_is_sequence := f1, d_is_sequence := (PySem.W.fnOf "is_sequence" "is_sequence" (defArgs s_is_sequence) (defBody s_is_sequence) (defScope s_is_sequence) .none kV1 dc1 pm1 an1 cd1 ct1), a_is_couple := f2, d_is_couple := (PySem.W.fnOf "is_couple" "is_couple" (defArgs s_is_couple) (defBody s_is_couple) (defScope s_is_couple) .none kV2 dc2 pm2 an2 cd2 ct2), a_is_colour := f3, d_is_colour := (PySem.W.fnOf "is_colour" "is_colour" (defArgs s_is_colour) (defBody s_is_colour) (defScope s_is_colour) .none kV3 dc3 pm3 an3 cd3 ct3), a_wrong_colour := f4, d_wrong_colour := (PySem.W.fnOf "wrong_colour" "wrong_colour" (defArgs s_wrong_colour) (defBody s_wrong_colour) (defScope s_wrong_colour) .none kV4 dc4 pm4 an4 cd4 ct4), a_check_marks := f5, d_check_marks := (PySem.W.fnOf "check_marks" "check_marks" (defArgs s_check_marks) (defBody s_check_marks) (defScope s_check_marks) .none kV5 dc5 pm5 an5 cd5 ct5), a_check_script := f6, d_check_script := (PySem.W.fnOf "check_script" "check_script" (defArgs s_check_script) (defBody s_check_script) (defScope s_check_script) .none kV6 dc6 pm6 an6 cd6 ct6), a__pour_fault := f7, d__pour_fault := (PySem.W.fnOf "_pour_fault" "_pour_fault" (defArgs s__pour_fault) (defBody s__pour_fault) (defScope s__pour_fault) .none kV7 dc7 pm7 an7 cd7 ct7), a_check_firsts := f8, d_check_firsts := (PySem.W.fnOf "check_firsts" "check_firsts" (defArgs s_check_firsts) (defBody s_check_firsts) (defScope s_check_firsts) .none kV8 dc8 pm8 an8 cd8 ct8), a__is_due := f9, d__is_due := (PySem.W.fnOf "_is_due" "_is_due" (defArgs s__is_due) (defBody s__is_due) (defScope s__is_due) .none kV9 dc9 pm9 an9 cd9 ct9), a_check_sights := f10, d_check_sights := (PySem.W.fnOf "check_sights" "check_sights" (defArgs s_check_sights) (defBody s_check_sights) (defScope s_check_sights) (.ref q10) kV10 dc10 pm10 an10 cd10 ct10), a__sight_fault := f11, d__sight_fault := (PySem.W.fnOf "_sight_fault" "_sight_fault" (defArgs s__sight_fault) (defBody s__sight_fault) (defScope s__sight_fault) .none kV11 dc11 pm11 an11 cd11 ct11), a__is_row := f12, d__is_row := (PySem.W.fnOf "_is_row" "_is_row" (defArgs s__is_row) (defBody s__is_row) (defScope s__is_row) .none kV12 dc12 pm12 an12 cd12 ct12), a__law_hand := f13, d__law_hand := (PySem.W.fnOf "_law_hand" "_law_hand" (defArgs s__law_hand) (defBody s__law_hand) (defScope s__law_hand) .none kV13 dc13 pm13 an13 cd13 ct13), a__law_mixed := f14, d__law_mixed := (PySem.W.fnOf "_law_mixed" "_law_mixed" (defArgs s__law_mixed) (defBody s__law_mixed) (defScope s__law_mixed) .none kV14 dc14 pm14 an14 cd14 ct14), a__law_take := f15, d__law_take := (PySem.W.fnOf "_law_take" "_law_take" (defArgs s__law_take) (defBody s__law_take) (defScope s__law_take) .none kV15 dc15 pm15 an15 cd15 ct15), a__law_colour := f16, d__law_colour := (PySem.W.fnOf "_law_colour" "_law_colour" (defArgs s__law_colour) (defBody s__law_colour) (defScope s__law_colour) .none kV16 dc16 pm16 an16 cd16 ct16), a__law_tuples := f17, d__law_tuples := (PySem.W.fnOf "_law_tuples" "_law_tuples" (defArgs s__law_tuples) (defBody s__law_tuples) (defScope s__law_tuples) .none kV17 dc17 pm17 an17 cd17 ct17), a__law_bare := f18, d__law_bare := (PySem.W.fnOf "_law_bare" "_law_bare" (defArgs s__law_bare) (defBody s__law_bare) (defScope s__law_bare) .none kV18 dc18 pm18 an18 cd18 ct18), a__law_lists := f19, d__law_lists := (PySem.W.fnOf "_law_lists" "_law_lists" (defArgs s__law_lists) (defBody s__law_lists) (defScope s__law_lists) .none kV19 dc19 pm19 an19 cd19 ct19), a__law_odd := f20, d__law_odd := (PySem.W.fnOf "_law_odd" "_law_odd" (defArgs s__law_odd) (defBody s__law_odd) (defScope s__law_odd) .none kV20 dc20 pm20 an20 cd20 ct20), a__law_rid := f21, d__law_rid := (PySem.W.fnOf "_law_rid" "_law_rid" (defArgs s__law_rid) (defBody s__law_rid) (defScope s__law_rid) .none kV21 dc21 pm21 an21 cd21 ct21), a__law_asked := f22, d__law_asked := (PySem.W.fnOf "_law_asked" "_law_asked" (defArgs s__law_asked) (defBody s__law_asked) (defScope s__law_asked) .none kV22 dc22 pm22 an22 cd22 ct22), a__law_number := f23, d__law_number := (PySem.W.fnOf "_law_number" "_law_number" (defArgs s__law_number) (defBody s__law_number) (defScope s__law_number) .none kV23 dc23 pm23 an23 cd23 ct23), a__law_hues := f24, d__law_hues := (PySem.W.fnOf "_law_hues" "_law_hues" (defArgs s__law_hues) (defBody s__law_hues) (defScope s__law_hues) .none kV24 dc24 pm24 an24 cd24 ct24), a__law_pours := f25, d__law_pours := (PySem.W.fnOf "_law_pours" "_law_pours" (defArgs s__law_pours) (defBody s__law_pours) (defScope s__law_pours) .none kV25 dc25 pm25 an25 cd25 ct25), a__law_due := f26, d__law_due := (PySem.W.fnOf "_law_due" "_law_due" (defArgs s__law_due) (defBody s__law_due) (defScope s__law_due) .none kV26 dc26 pm26 an26 cd26 ct26), a__law_cracked := f27, d__law_cracked := (PySem.W.fnOf "_law_cracked" "_law_cracked" (defArgs s__law_cracked) (defBody s__law_cracked) (defScope s__law_cracked) .none kV27 dc27 pm27 an27 cd27 ct27), a__law_torn := f28, d__law_torn := (PySem.W.fnOf "_law_torn" "_law_torn" (defArgs s__law_torn) (defBody s__law_torn) (defScope s__law_torn) .none kV28 dc28 pm28 an28 cd28 ct28), a__law_wrong := f29, d__law_wrong := (PySem.W.fnOf "_law_wrong" "_law_wrong" (defArgs s__law_wrong) (defBody s__law_wrong) (defScope s__law_wrong) .none kV29 dc29 pm29 an29 cd29 ct29), a__law_begun := f30, d__law_begun := (PySem.W.fnOf "_law_begun" "_law_begun" (defArgs s__law_begun) (defBody s__law_begun) (defScope s__law_begun) .none kV30 dc30 pm30 an30 cd30 ct30), a_law := fa, d_law := (PySem.W.fnOf "law" "law" (defArgs s_law) (defBody s_law) (defScope s_law) .none kV31 dc31 pm31 an31 cd31 ct31), c_HueError := C0, c_BadMarks := C1, c_BadScript := C2, c_BadFirsts := C3, c_BadSight := C4, i_BadMarks := I0, di_BadMarks := (PySem.W.fnOf "__init__" "BadMarks.__init__" (defArgs s_BadMarks) (defBody s_BadMarks) (defScope s_BadMarks) .none kVI0 dcI0 pmI0 anI0 cdI0 ctI0), i_BadScript := I1, di_BadScript := (PySem.W.fnOf "__init__" "BadScript.__init__" (defArgs s_BadScript) (defBody s_BadScript) (defScope s_BadScript) .none kVI1 dcI1 pmI1 anI1 cdI1 ctI1), i_BadFirsts := I2, di_BadFirsts := (PySem.W.fnOf "__init__" "BadFirsts.__init__" (defArgs s_BadFirsts) (defBody s_BadFirsts) (defScope s_BadFirsts) .none kVI2 dcI2 pmI2 anI2 cdI2 ctI2), i_BadSight := I3, di_BadSight := (PySem.W.fnOf "__init__" "BadSight.__init__" (defArgs s_BadSight) (defBody s_BadSight) (defScope s_BadSight) .none kVI3 dcI3 pmI3 anI3 cdI3 ctI3) }
  have F0 : FunD K "is_whole" "is_whole" (defArgs s_is_whole) (defBody s_is_whole) (defScope s_is_whole) [.non, .non] [] A.a_is_whole A.d_is_whole := ⟨⟨_, _, _, _, _, _, _, _, _, _, rfl, l0, c0, .inr ⟨by simp, _, _, [.none, .none], _, rfl, q0l, rfl, (.cons rfl (.cons rfl .nil))⟩, .inl rfl⟩, k0⟩
  have F1 : FunD K "is_sequence" "is_sequence" (defArgs s_is_sequence) (defBody s_is_sequence) (defScope s_is_sequence) [] [] A.a_is_sequence A.d_is_sequence := ⟨⟨_, _, _, _, _, _, _, _, _, _, rfl, l1, c1, .inl ⟨rfl, rfl⟩, .inl rfl⟩, k1⟩
  have F2 : FunD K "is_couple" "is_couple" (defArgs s_is_couple) (defBody s_is_couple) (defScope s_is_couple) [] [] A.a_is_couple A.d_is_couple := ⟨⟨_, _, _, _, _, _, _, _, _, _, rfl, l2, c2, .inl ⟨rfl, rfl⟩, .inl rfl⟩, k2⟩
  have F3 : FunD K "is_colour" "is_colour" (defArgs s_is_colour) (defBody s_is_colour) (defScope s_is_colour) [] [] A.a_is_colour A.d_is_colour := ⟨⟨_, _, _, _, _, _, _, _, _, _, rfl, l3, c3, .inl ⟨rfl, rfl⟩, .inl rfl⟩, k3⟩
  have F4 : FunD K "wrong_colour" "wrong_colour" (defArgs s_wrong_colour) (defBody s_wrong_colour) (defScope s_wrong_colour) [] [] A.a_wrong_colour A.d_wrong_colour := ⟨⟨_, _, _, _, _, _, _, _, _, _, rfl, l4, c4, .inl ⟨rfl, rfl⟩, .inl rfl⟩, k4⟩
  have F5 : FunD K "check_marks" "check_marks" (defArgs s_check_marks) (defBody s_check_marks) (defScope s_check_marks) [] [] A.a_check_marks A.d_check_marks := ⟨⟨_, _, _, _, _, _, _, _, _, _, rfl, l5, c5, .inl ⟨rfl, rfl⟩, .inl rfl⟩, k5⟩
  have F6 : FunD K "check_script" "check_script" (defArgs s_check_script) (defBody s_check_script) (defScope s_check_script) [] [] A.a_check_script A.d_check_script := ⟨⟨_, _, _, _, _, _, _, _, _, _, rfl, l6, c6, .inl ⟨rfl, rfl⟩, .inl rfl⟩, k6⟩
  have F7 : FunD K "_pour_fault" "_pour_fault" (defArgs s__pour_fault) (defBody s__pour_fault) (defScope s__pour_fault) [] [] A.a__pour_fault A.d__pour_fault := ⟨⟨_, _, _, _, _, _, _, _, _, _, rfl, l7, c7, .inl ⟨rfl, rfl⟩, .inl rfl⟩, k7⟩
  have F8 : FunD K "check_firsts" "check_firsts" (defArgs s_check_firsts) (defBody s_check_firsts) (defScope s_check_firsts) [] [] A.a_check_firsts A.d_check_firsts := ⟨⟨_, _, _, _, _, _, _, _, _, _, rfl, l8, c8, .inl ⟨rfl, rfl⟩, .inl rfl⟩, k8⟩
  have F9 : FunD K "_is_due" "_is_due" (defArgs s__is_due) (defBody s__is_due) (defScope s__is_due) [] [] A.a__is_due A.d__is_due := ⟨⟨_, _, _, _, _, _, _, _, _, _, rfl, l9, c9, .inl ⟨rfl, rfl⟩, .inl rfl⟩, k9⟩
  have F10 : FunD K "check_sights" "check_sights" (defArgs s_check_sights) (defBody s_check_sights) (defScope s_check_sights) [.int 3] [] A.a_check_sights A.d_check_sights := ⟨⟨_, _, _, _, _, _, _, _, _, _, rfl, l10, c10, .inr ⟨by simp, _, _, [.int 3 t10_0], _, rfl, q10l, rfl, (.cons ⟨_, rfl⟩ .nil)⟩, .inl rfl⟩, k10⟩
  have F11 : FunD K "_sight_fault" "_sight_fault" (defArgs s__sight_fault) (defBody s__sight_fault) (defScope s__sight_fault) [] [] A.a__sight_fault A.d__sight_fault := ⟨⟨_, _, _, _, _, _, _, _, _, _, rfl, l11, c11, .inl ⟨rfl, rfl⟩, .inl rfl⟩, k11⟩
  have F12 : FunD K "_is_row" "_is_row" (defArgs s__is_row) (defBody s__is_row) (defScope s__is_row) [] [] A.a__is_row A.d__is_row := ⟨⟨_, _, _, _, _, _, _, _, _, _, rfl, l12, c12, .inl ⟨rfl, rfl⟩, .inl rfl⟩, k12⟩
  have F13 : FunD K "_law_hand" "_law_hand" (defArgs s__law_hand) (defBody s__law_hand) (defScope s__law_hand) [] [] A.a__law_hand A.d__law_hand := ⟨⟨_, _, _, _, _, _, _, _, _, _, rfl, l13, c13, .inl ⟨rfl, rfl⟩, .inl rfl⟩, k13⟩
  have F14 : FunD K "_law_mixed" "_law_mixed" (defArgs s__law_mixed) (defBody s__law_mixed) (defScope s__law_mixed) [] [] A.a__law_mixed A.d__law_mixed := ⟨⟨_, _, _, _, _, _, _, _, _, _, rfl, l14, c14, .inl ⟨rfl, rfl⟩, .inl rfl⟩, k14⟩
  have F15 : FunD K "_law_take" "_law_take" (defArgs s__law_take) (defBody s__law_take) (defScope s__law_take) [] [] A.a__law_take A.d__law_take := ⟨⟨_, _, _, _, _, _, _, _, _, _, rfl, l15, c15, .inl ⟨rfl, rfl⟩, .inl rfl⟩, k15⟩
  have F16 : FunD K "_law_colour" "_law_colour" (defArgs s__law_colour) (defBody s__law_colour) (defScope s__law_colour) [] [] A.a__law_colour A.d__law_colour := ⟨⟨_, _, _, _, _, _, _, _, _, _, rfl, l16, c16, .inl ⟨rfl, rfl⟩, .inl rfl⟩, k16⟩
  have F17 : FunD K "_law_tuples" "_law_tuples" (defArgs s__law_tuples) (defBody s__law_tuples) (defScope s__law_tuples) [] [] A.a__law_tuples A.d__law_tuples := ⟨⟨_, _, _, _, _, _, _, _, _, _, rfl, l17, c17, .inl ⟨rfl, rfl⟩, .inl rfl⟩, k17⟩
  have F18 : FunD K "_law_bare" "_law_bare" (defArgs s__law_bare) (defBody s__law_bare) (defScope s__law_bare) [] [] A.a__law_bare A.d__law_bare := ⟨⟨_, _, _, _, _, _, _, _, _, _, rfl, l18, c18, .inl ⟨rfl, rfl⟩, .inl rfl⟩, k18⟩
  have F19 : FunD K "_law_lists" "_law_lists" (defArgs s__law_lists) (defBody s__law_lists) (defScope s__law_lists) [] [] A.a__law_lists A.d__law_lists := ⟨⟨_, _, _, _, _, _, _, _, _, _, rfl, l19, c19, .inl ⟨rfl, rfl⟩, .inl rfl⟩, k19⟩
  have F20 : FunD K "_law_odd" "_law_odd" (defArgs s__law_odd) (defBody s__law_odd) (defScope s__law_odd) [] [] A.a__law_odd A.d__law_odd := ⟨⟨_, _, _, _, _, _, _, _, _, _, rfl, l20, c20, .inl ⟨rfl, rfl⟩, .inl rfl⟩, k20⟩
  have F21 : FunD K "_law_rid" "_law_rid" (defArgs s__law_rid) (defBody s__law_rid) (defScope s__law_rid) [] [] A.a__law_rid A.d__law_rid := ⟨⟨_, _, _, _, _, _, _, _, _, _, rfl, l21, c21, .inl ⟨rfl, rfl⟩, .inl rfl⟩, k21⟩
  have F22 : FunD K "_law_asked" "_law_asked" (defArgs s__law_asked) (defBody s__law_asked) (defScope s__law_asked) [] [] A.a__law_asked A.d__law_asked := ⟨⟨_, _, _, _, _, _, _, _, _, _, rfl, l22, c22, .inl ⟨rfl, rfl⟩, .inl rfl⟩, k22⟩
  have F23 : FunD K "_law_number" "_law_number" (defArgs s__law_number) (defBody s__law_number) (defScope s__law_number) [] [] A.a__law_number A.d__law_number := ⟨⟨_, _, _, _, _, _, _, _, _, _, rfl, l23, c23, .inl ⟨rfl, rfl⟩, .inl rfl⟩, k23⟩
  have F24 : FunD K "_law_hues" "_law_hues" (defArgs s__law_hues) (defBody s__law_hues) (defScope s__law_hues) [] [] A.a__law_hues A.d__law_hues := ⟨⟨_, _, _, _, _, _, _, _, _, _, rfl, l24, c24, .inl ⟨rfl, rfl⟩, .inl rfl⟩, k24⟩
  have F25 : FunD K "_law_pours" "_law_pours" (defArgs s__law_pours) (defBody s__law_pours) (defScope s__law_pours) [] [] A.a__law_pours A.d__law_pours := ⟨⟨_, _, _, _, _, _, _, _, _, _, rfl, l25, c25, .inl ⟨rfl, rfl⟩, .inl rfl⟩, k25⟩
  have F26 : FunD K "_law_due" "_law_due" (defArgs s__law_due) (defBody s__law_due) (defScope s__law_due) [] [] A.a__law_due A.d__law_due := ⟨⟨_, _, _, _, _, _, _, _, _, _, rfl, l26, c26, .inl ⟨rfl, rfl⟩, .inl rfl⟩, k26⟩
  have F27 : FunD K "_law_cracked" "_law_cracked" (defArgs s__law_cracked) (defBody s__law_cracked) (defScope s__law_cracked) [] [] A.a__law_cracked A.d__law_cracked := ⟨⟨_, _, _, _, _, _, _, _, _, _, rfl, l27, c27, .inl ⟨rfl, rfl⟩, .inl rfl⟩, k27⟩
  have F28 : FunD K "_law_torn" "_law_torn" (defArgs s__law_torn) (defBody s__law_torn) (defScope s__law_torn) [] [] A.a__law_torn A.d__law_torn := ⟨⟨_, _, _, _, _, _, _, _, _, _, rfl, l28, c28, .inl ⟨rfl, rfl⟩, .inl rfl⟩, k28⟩
  have F29 : FunD K "_law_wrong" "_law_wrong" (defArgs s__law_wrong) (defBody s__law_wrong) (defScope s__law_wrong) [] [] A.a__law_wrong A.d__law_wrong := ⟨⟨_, _, _, _, _, _, _, _, _, _, rfl, l29, c29, .inl ⟨rfl, rfl⟩, .inl rfl⟩, k29⟩
  have F30 : FunD K "_law_begun" "_law_begun" (defArgs s__law_begun) (defBody s__law_begun) (defScope s__law_begun) [] [] A.a__law_begun A.d__law_begun := ⟨⟨_, _, _, _, _, _, _, _, _, _, rfl, l30, c30, .inl ⟨rfl, rfl⟩, .inl rfl⟩, k30⟩
  have F31 : FunD K "law" "law" (defArgs s_law) (defBody s_law) (defScope s_law) [] [] A.a_law A.d_law := ⟨⟨_, _, _, _, _, _, _, _, _, _, rfl, l31, c31, .inl ⟨rfl, rfl⟩, .inl rfl⟩, k31⟩
  have T : Tx K mg A := {
    F_is_whole := F0
    g_is_whole := PySem.W.mg_of X G a0
    b_is_whole := bindD0 F0 (by simp) fun _ _ _ _ _ _ _ us its h1 h2 => match us, its, h1, h2 with | [_, _, _], [_, _], _, _ => ⟨_, rfl, rfl⟩
    F_is_sequence := F1
    g_is_sequence := PySem.W.mg_of X G a1
    b_is_sequence := (fun_mk (st := s_is_sequence) l1 c1 k1).binds (ps := ["thing"]) fun _ _ _ _ _ _ us hl => match us, hl with | [_], _ => rfl
    F_is_couple := F2
    g_is_couple := PySem.W.mg_of X G a2
    b_is_couple := (fun_mk (st := s_is_couple) l2 c2 k2).binds (ps := ["thing"]) fun _ _ _ _ _ _ us hl => match us, hl with | [_], _ => rfl
    F_is_colour := F3
    g_is_colour := PySem.W.mg_of X G a3
    b_is_colour := (fun_mk (st := s_is_colour) l3 c3 k3).binds (ps := ["thing"]) fun _ _ _ _ _ _ us hl => match us, hl with | [_], _ => rfl
    F_wrong_colour := F4
    g_wrong_colour := PySem.W.mg_of X G a4
    b_wrong_colour := (fun_mk (st := s_wrong_colour) l4 c4 k4).binds (ps := ["row"]) fun _ _ _ _ _ _ us hl => match us, hl with | [_], _ => rfl
    F_check_marks := F5
    g_check_marks := PySem.W.mg_of X G a5
    b_check_marks := (fun_mk (st := s_check_marks) l5 c5 k5).binds (ps := ["marks"]) fun _ _ _ _ _ _ us hl => match us, hl with | [_], _ => rfl
    F_check_script := F6
    g_check_script := PySem.W.mg_of X G a6
    b_check_script := (fun_mk (st := s_check_script) l6 c6 k6).binds (ps := ["marks", "script"]) fun _ _ _ _ _ _ us hl => match us, hl with | [_, _], _ => rfl
    F__pour_fault := F7
    g__pour_fault := PySem.W.mg_of X G a7
    b__pour_fault := (fun_mk (st := s__pour_fault) l7 c7 k7).binds (ps := ["marks", "pour"]) fun _ _ _ _ _ _ us hl => match us, hl with | [_, _], _ => rfl
    F_check_firsts := F8
    g_check_firsts := PySem.W.mg_of X G a8
    b_check_firsts := (fun_mk (st := s_check_firsts) l8 c8 k8).binds (ps := ["marks", "firsts"]) fun _ _ _ _ _ _ us hl => match us, hl with | [_, _], _ => rfl
    F__is_due := F9
    g__is_due := PySem.W.mg_of X G a9
    b__is_due := (fun_mk (st := s__is_due) l9 c9 k9).binds (ps := ["many", "marks"]) fun _ _ _ _ _ _ us hl => match us, hl with | [_, _], _ => rfl
    F_check_sights := F10
    g_check_sights := PySem.W.mg_of X G a10
    b_check_sights := bindD0 F10 (by simp) fun _ _ _ _ _ _ _ us its h1 h2 => match us, its, h1, h2 with | [_, _, _], [_], _, _ => ⟨_, rfl, rfl⟩
    b_check_sights_2 := bindD F10 2 0 (by simp) (by decide) fun _ _ _ _ _ _ _ us its h1 h2 => match us, its, h1, h2 with | [_, _], [_], _, _ => ⟨_, rfl, rfl⟩
    kw_check_sights_most := kbind1 F10 2 ["most"] (fun us its ws => us ++ ws) (by simp) (fun r1 r2 r3 => Vals.append r1 r3) fun _ _ _ _ _ _ _ us its ws h1 h2 h3 => match us, its, ws, h1, h2, h3 with | [_, _], [_], [_], _, _, _ => ⟨_, rfl, rfl⟩
    F__sight_fault := F11
    g__sight_fault := PySem.W.mg_of X G a11
    b__sight_fault := (fun_mk (st := s__sight_fault) l11 c11 k11).binds (ps := ["firsts", "sight"]) fun _ _ _ _ _ _ us hl => match us, hl with | [_, _], _ => rfl
    F__is_row := F12
    g__is_row := PySem.W.mg_of X G a12
    b__is_row := (fun_mk (st := s__is_row) l12 c12 k12).binds (ps := ["marks", "row"]) fun _ _ _ _ _ _ us hl => match us, hl with | [_, _], _ => rfl
    F__law_hand := F13
    g__law_hand := PySem.W.mg_of X G a13
    b__law_hand := (fun_mk (st := s__law_hand) l13 c13 k13).binds (ps := ["_law_script"]) fun _ _ _ _ _ _ us hl => match us, hl with | [_], _ => rfl
    F__law_mixed := F14
    g__law_mixed := PySem.W.mg_of X G a14
    b__law_mixed := (fun_mk (st := s__law_mixed) l14 c14 k14).binds (ps := ["_law_number_here", "_law_turn"]) fun _ _ _ _ _ _ us hl => match us, hl with | [_, _], _ => rfl
    F__law_take := F15
    g__law_take := PySem.W.mg_of X G a15
    b__law_take := (fun_mk (st := s__law_take) l15 c15 k15).binds (ps := ["_law_hand_here", "_law_many"]) fun _ _ _ _ _ _ us hl => match us, hl with | [_, _], _ => rfl
    F__law_colour := F16
    g__law_colour := PySem.W.mg_of X G a16
    b__law_colour := (fun_mk (st := s__law_colour) l16 c16 k16).binds (ps := ["_law_hand_here"]) fun _ _ _ _ _ _ us hl => match us, hl with | [_], _ => rfl
    F__law_tuples := F17
    g__law_tuples := PySem.W.mg_of X G a17
    b__law_tuples := (fun_mk (st := s__law_tuples) l17 c17 k17).binds (ps := ["_law_thing"]) fun _ _ _ _ _ _ us hl => match us, hl with | [_], _ => rfl
    F__law_bare := F18
    g__law_bare := PySem.W.mg_of X G a18
    b__law_bare := (fun_mk (st := s__law_bare) l18 c18 k18).binds (ps := ["_law_thing"]) fun _ _ _ _ _ _ us hl => match us, hl with | [_], _ => rfl
    F__law_lists := F19
    g__law_lists := PySem.W.mg_of X G a19
    b__law_lists := (fun_mk (st := s__law_lists) l19 c19 k19).binds (ps := ["_law_hand_here", "_law_thing"]) fun _ _ _ _ _ _ us hl => match us, hl with | [_, _], _ => rfl
    F__law_odd := F20
    g__law_odd := PySem.W.mg_of X G a20
    b__law_odd := (fun_mk (st := s__law_odd) l20 c20 k20).binds (ps := ["_law_hand_here", "_law_bound"]) fun _ _ _ _ _ _ us hl => match us, hl with | [_, _], _ => rfl
    F__law_rid := F21
    g__law_rid := PySem.W.mg_of X G a21
    b__law_rid := (fun_mk (st := s__law_rid) l21 c21 k21).binds (ps := ["_law_hand_here"]) fun _ _ _ _ _ _ us hl => match us, hl with | [_], _ => rfl
    F__law_asked := F22
    g__law_asked := PySem.W.mg_of X G a22
    b__law_asked := (fun_mk (st := s__law_asked) l22 c22 k22).binds (ps := ["_law_firsts", "_law_sights", "_law_upto"]) fun _ _ _ _ _ _ us hl => match us, hl with | [_, _, _], _ => rfl
    F__law_number := F23
    g__law_number := PySem.W.mg_of X G a23
    b__law_number := (fun_mk (st := s__law_number) l23 c23 k23).binds (ps := ["_law_thing", "_law_upto"]) fun _ _ _ _ _ _ us hl => match us, hl with | [_, _], _ => rfl
    F__law_hues := F24
    g__law_hues := PySem.W.mg_of X G a24
    b__law_hues := (fun_mk (st := s__law_hues) l24 c24 k24).binds (ps := ["_law_thing", "_law_many"]) fun _ _ _ _ _ _ us hl => match us, hl with | [_, _], _ => rfl
    F__law_pours := F25
    g__law_pours := PySem.W.mg_of X G a25
    b__law_pours := (fun_mk (st := s__law_pours) l25 c25 k25).binds (ps := ["_law_thing", "_law_many"]) fun _ _ _ _ _ _ us hl => match us, hl with | [_, _], _ => rfl
    F__law_due := F26
    g__law_due := PySem.W.mg_of X G a26
    b__law_due := (fun_mk (st := s__law_due) l26 c26 k26).binds (ps := ["_law_firsts", "_law_sights", "_law_upto"]) fun _ _ _ _ _ _ us hl => match us, hl with | [_, _, _], _ => rfl
    F__law_cracked := F27
    g__law_cracked := PySem.W.mg_of X G a27
    b__law_cracked := (fun_mk (st := s__law_cracked) l27 c27 k27).binds (ps := ["_law_hand_here", "_law_script", "_law_many"]) fun _ _ _ _ _ _ us hl => match us, hl with | [_, _, _], _ => rfl
    F__law_torn := F28
    g__law_torn := PySem.W.mg_of X G a28
    b__law_torn := (fun_mk (st := s__law_torn) l28 c28 k28).binds (ps := ["_law_hand_here", "_law_rows"]) fun _ _ _ _ _ _ us hl => match us, hl with | [_, _], _ => rfl
    F__law_wrong := F29
    g__law_wrong := PySem.W.mg_of X G a29
    b__law_wrong := (fun_mk (st := s__law_wrong) l29 c29 k29).binds (ps := ["_law_hand_here", "_law_sight", "_law_many"]) fun _ _ _ _ _ _ us hl => match us, hl with | [_, _, _], _ => rfl
    F__law_begun := F30
    g__law_begun := PySem.W.mg_of X G a30
    b__law_begun := (fun_mk (st := s__law_begun) l30 c30 k30).binds (ps := ["_law_hand_here", "_law_firsts"]) fun _ _ _ _ _ _ us hl => match us, hl with | [_, _], _ => rfl
    F_law := F31
    g_law := PySem.W.mg_of X G a31
    b_law := (fun_mk (st := s_law) l31 c31 k31).binds (ps := ["_law_script"]) fun _ _ _ _ _ _ us hl => match us, hl with | [_], _ => rfl
    h_BadMarks_marks := n0_marks
    o_BadMarks := ⟨⟨_, _, _, _, _, _, _, _, _, _, _, _, _, _, _, x0, r0⟩, sa0, eC0, tC0, kC0⟩
    x_BadMarks := ⟨ga0, gg0, eC0, hd0⟩
    g_BadMarks := PySem.W.mg_of X G C1a
    i_BadMarks := i0
    t_BadMarks := t0
    FI_BadMarks := ⟨⟨_, _, _, _, _, _, _, _, _, _, rfl, lI0, cI0, .inl ⟨rfl, rfl⟩, .inl rfl⟩, kI0⟩
    bi_BadMarks := (fun_mk (st := s_BadMarks) lI0 cI0 kI0).binds (ps := ["self", "marks"]) fun _ _ _ _ _ _ us hl => match us, hl with | [_, _], _ => rfl
    h_BadScript_index := n1_index
    h_BadScript_what := n1_what
    o_BadScript := ⟨⟨_, _, _, _, _, _, _, _, _, _, _, _, _, _, _, x1, r1⟩, sa1, eC1, tC1, kC1⟩
    x_BadScript := ⟨ga1, gg1, eC1, hd1⟩
    g_BadScript := PySem.W.mg_of X G C2a
    i_BadScript := i1
    t_BadScript := t1
    FI_BadScript := ⟨⟨_, _, _, _, _, _, _, _, _, _, rfl, lI1, cI1, .inl ⟨rfl, rfl⟩, .inl rfl⟩, kI1⟩
    bi_BadScript := (fun_mk (st := s_BadScript) lI1 cI1 kI1).binds (ps := ["self", "index", "what"]) fun _ _ _ _ _ _ us hl => match us, hl with | [_, _, _], _ => rfl
    h_BadFirsts_index := n2_index
    o_BadFirsts := ⟨⟨_, _, _, _, _, _, _, _, _, _, _, _, _, _, _, x2, r2⟩, sa2, eC2, tC2, kC2⟩
    x_BadFirsts := ⟨ga2, gg2, eC2, hd2⟩
    g_BadFirsts := PySem.W.mg_of X G C3a
    i_BadFirsts := i2
    t_BadFirsts := t2
    FI_BadFirsts := ⟨⟨_, _, _, _, _, _, _, _, _, _, rfl, lI2, cI2, .inl ⟨rfl, rfl⟩, .inl rfl⟩, kI2⟩
    bi_BadFirsts := (fun_mk (st := s_BadFirsts) lI2 cI2 kI2).binds (ps := ["self", "index"]) fun _ _ _ _ _ _ us hl => match us, hl with | [_, _], _ => rfl
    h_BadSight_index := n3_index
    h_BadSight_what := n3_what
    o_BadSight := ⟨⟨_, _, _, _, _, _, _, _, _, _, _, _, _, _, _, x3, r3⟩, sa3, eC3, tC3, kC3⟩
    x_BadSight := ⟨ga3, gg3, eC3, hd3⟩
    g_BadSight := PySem.W.mg_of X G C4a
    i_BadSight := i3
    t_BadSight := t3
    FI_BadSight := ⟨⟨_, _, _, _, _, _, _, _, _, _, rfl, lI3, cI3, .inl ⟨rfl, rfl⟩, .inl rfl⟩, kI3⟩
    bi_BadSight := (fun_mk (st := s_BadSight) lI3 cI3 kI3).binds (ps := ["self", "index", "what"]) fun _ _ _ _ _ _ us hl => match us, hl with | [_, _, _], _ => rfl
    base := ⟨PySem.W.mg_of X G C0a, Bsp, Brd, BvI⟩
    ex := fun c c' h h' => match c, c', h, h' with | 0, 0, _, _ => exm_two eC0 is0 tC0 e0_0 | 0, 1, _, _ => exm_two eC1 is1 tC1 e0_1 | 0, 2, _, _ => exm_two eC2 is2 tC2 e0_2 | 0, 3, _, _ => exm_two eC3 is3 tC3 e0_3 | 1, 0, _, _ => exm_two eC0 is0 tC0 e1_0 | 1, 1, _, _ => exm_two eC1 is1 tC1 e1_1 | 1, 2, _, _ => exm_two eC2 is2 tC2 e1_2 | 1, 3, _, _ => exm_two eC3 is3 tC3 e1_3 | 2, 0, _, _ => exm_two eC0 is0 tC0 e2_0 | 2, 1, _, _ => exm_two eC1 is1 tC1 e2_1 | 2, 2, _, _ => exm_two eC2 is2 tC2 e2_2 | 2, 3, _, _ => exm_two eC3 is3 tC3 e2_3 | 3, 0, _, _ => exm_two eC0 is0 tC0 e3_0 | 3, 1, _, _ => exm_two eC1 is1 tC1 e3_1 | 3, 2, _, _ => exm_two eC2 is2 tC2 e3_2 | 3, 3, _, _ => exm_two eC3 is3 tC3 e3_3 | c + 4, _, h, _ => absurd h (by omega) | 0, c + 4, _, h => absurd h (by omega) | 1, c + 4, _, h => absurd h (by omega) | 2, c + 4, _, h => absurd h (by omega) | 3, c + 4, _, h => absurd h (by omega)
    n_abs := PySem.W.mg_none_of X G z_abs
    n_all := PySem.W.mg_none_of X G z_all
    n_bool := PySem.W.mg_none_of X G z_bool
    n_enumerate := PySem.W.mg_none_of X G z_enumerate
    n_int := PySem.W.mg_none_of X G z_int
    n_isinstance := PySem.W.mg_none_of X G z_isinstance
    n_len := PySem.W.mg_none_of X G z_len
    n_list := PySem.W.mg_none_of X G z_list
    n_range := PySem.W.mg_none_of X G z_range
    n_tuple := PySem.W.mg_none_of X G z_tuple
    k_MOST_COLOUR := ⟨_, PySem.W.mg_of X G v_MOST_COLOUR⟩
    k_MOST_POURS := ⟨_, PySem.W.mg_of X G v_MOST_POURS⟩
    k_MOST_MARKS := ⟨_, PySem.W.mg_of X G v_MOST_MARKS⟩
    k_MOST_SIGHTS := ⟨_, PySem.W.mg_of X G v_MOST_SIGHTS⟩
  }
  exact ⟨(PySem.W.fnOf "law" "law" (defArgs s_law) (defBody s_law) (defScope s_law) .none kV31 dc31 pm31 an31 cd31 ct31), fun s v => .of_eq rfl, fun base _ _ => ok_law T hm⟩
theorem walk {l : PySem.W.OpenLaw} {q : Program} {loose : List Str} {XP : (Str → Option Value) → Heap → Prop} {YP : World → Heap → Prop} {d : DefRec} {K : Params → PySem.W.Frag} (hn : l.most = some 63) (hdf : d.params.defaults = [])
    (hY : ∀ (w : World) (h : Heap), YP w h → (K w.params).In h)
    (F : ∀ (w : World) (mg : Str → Option Value) (fa : Addr) (h : Heap), (K w.params).In h → h.Ns mainGlobals mg → mg d.name = some (.ref fa) →
      ∃ fd : FuncData, (∀ (s : Shared) (u : Value), BindsTo s fd ⟨[u], []⟩ [("_law_script", u)]) ∧ ∀ base : Heap, (K w.params).In base → base.Ns mainGlobals mg → FnG l.prog w (K w.params) mg base (L2.CX l.prog w) 12 fa fd ["_law_script"] (spLaw (K w.params))) :
    PySem.W.WalkO q loose XP YP l.row.toRowW d [] (fun f vs => PySem.call f vs) :=
  walkG (n := 63) (k := 12) (x := "_law_script") (CX := fun w => L2.CX l.prog w) (sp := fun w => spLaw (K w.params)) hn (by decide) hdf ⟨rfl, by decide, by decide⟩ hY F (fun _ _ a ns hl _ hS => ⟨a, ns, rfl, hS, hl, fun _ => rfl⟩) fun _ _ _ _ _ z => cx_no z
end G_spreadhues_k59_whole_sights_checked
open PySem PySem.W PyProof.Rows
set_option maxRecDepth 100000 in
set_option maxHeartbeats 0 in
theorem PySem.Challenge.cw_spreadhues_k59_whole_sights_checked_holds : PySem.Challenge.rw_spreadhues_k59_whole_sights_checked.Holds := by
  w_on; o_law; k_head; (case hw => w_witness2)
  k_fill
  refine G_spreadhues_k59_whole_sights_checked.walk (l := PySem.Challenge.rw_spreadhues_k59_whole_sights_checked) rfl rfl (fun w h Y => PySem.W.kIn_of Y) ?F
  case F =>
    intro w mg fa h KX G hmg
    refine' G_spreadhues_k59_whole_sights_checked.all_mk G_spreadhues_k59_whole_sights_checked.law_true KX G hmg ?a0 ?l0 ?c0 ?k0 ?q0l ?a1 ?l1 ?c1 ?k1 ?a2 ?l2 ?c2 ?k2 ?a3 ?l3 ?c3 ?k3 ?a4 ?l4 ?c4 ?k4 ?a5 ?l5 ?c5 ?k5 ?a6 ?l6 ?c6 ?k6 ?a7 ?l7 ?c7 ?k7 ?a8 ?l8 ?c8 ?k8 ?a9 ?l9 ?c9 ?k9 ?a10 ?l10 ?c10 ?k10 ?q10l ?a11 ?l11 ?c11 ?k11 ?a12 ?l12 ?c12 ?k12 ?a13 ?l13 ?c13 ?k13 ?a14 ?l14 ?c14 ?k14 ?a15 ?l15 ?c15 ?k15 ?a16 ?l16 ?c16 ?k16 ?a17 ?l17 ?c17 ?k17 ?a18 ?l18 ?c18 ?k18 ?a19 ?l19 ?c19 ?k19 ?a20 ?l20 ?c20 ?k20 ?a21 ?l21 ?c21 ?k21 ?a22 ?l22 ?c22 ?k22 ?a23 ?l23 ?c23 ?k23 ?a24 ?l24 ?c24 ?k24 ?a25 ?l25 ?c25 ?k25 ?a26 ?l26 ?c26 ?k26 ?a27 ?l27 ?c27 ?k27 ?a28 ?l28 ?c28 ?k28 ?a29 ?l29 ?c29 ?k29 ?a30 ?l30 ?c30 ?k30 ?a31 ?l31 ?c31 ?k31 ?C0a ?C1a ?C2a ?C3a ?C4a ?x0 ?r0 ?sa0 ?eC0 ?tC0 ?is0 ?kC0 ?ga0 ?gg0 ?hd0 ?i0 ?t0 ?lI0 ?cI0 ?kI0 ?n0_marks ?x1 ?r1 ?sa1 ?eC1 ?tC1 ?is1 ?kC1 ?ga1 ?gg1 ?hd1 ?i1 ?t1 ?lI1 ?cI1 ?kI1 ?n1_index ?n1_what ?x2 ?r2 ?sa2 ?eC2 ?tC2 ?is2 ?kC2 ?ga2 ?gg2 ?hd2 ?i2 ?t2 ?lI2 ?cI2 ?kI2 ?n2_index ?x3 ?r3 ?sa3 ?eC3 ?tC3 ?is3 ?kC3 ?ga3 ?gg3 ?hd3 ?i3 ?t3 ?lI3 ?cI3 ?kI3 ?n3_index ?n3_what ?Bsp ?Brd ?BvI ?e0_0 ?e0_1 ?e0_2 ?e0_3 ?e1_0 ?e1_1 ?e1_2 ?e1_3 ?e2_0 ?e2_1 ?e2_2 ?e2_3 ?e3_0 ?e3_1 ?e3_2 ?e3_3 ?z_abs ?z_all ?z_bool ?z_enumerate ?z_int ?z_isinstance ?z_len ?z_list ?z_range ?z_tuple ?v_MOST_COLOUR ?v_MOST_POURS ?v_MOST_MARKS ?v_MOST_SIGHTS
    (case a0 => k_is)
    (case l0 => k_is)
    (case c0 => k_is)
    (case k0 => k_is)
    (case q0l => k_is)
    (case a1 => k_is)
    (case l1 => k_is)
    (case c1 => k_is)
    (case k1 => k_is)
    (case a2 => k_is)
    (case l2 => k_is)
    (case c2 => k_is)
    (case k2 => k_is)
    (case a3 => k_is)
    (case l3 => k_is)
    (case c3 => k_is)
    (case k3 => k_is)
    (case a4 => k_is)
    (case l4 => k_is)
    (case c4 => k_is)
    (case k4 => k_is)
    (case a5 => k_is)
    (case l5 => k_is)
    (case c5 => k_is)
    (case k5 => k_is)
    (case a6 => k_is)
    (case l6 => k_is)
    (case c6 => k_is)
    (case k6 => k_is)
    (case a7 => k_is)
    (case l7 => k_is)
    (case c7 => k_is)
    (case k7 => k_is)
    (case a8 => k_is)
    (case l8 => k_is)
    (case c8 => k_is)
    (case k8 => k_is)
    (case a9 => k_is)
    (case l9 => k_is)
    (case c9 => k_is)
    (case k9 => k_is)
    (case a10 => k_is)
    (case l10 => k_is)
    (case c10 => k_is)
    (case k10 => k_is)
    (case q10l => k_is)
    (case a11 => k_is)
    (case l11 => k_is)
    (case c11 => k_is)
    (case k11 => k_is)
    (case a12 => k_is)
    (case l12 => k_is)
    (case c12 => k_is)
    (case k12 => k_is)
    (case a13 => k_is)
    (case l13 => k_is)
    (case c13 => k_is)
    (case k13 => k_is)
    (case a14 => k_is)
    (case l14 => k_is)
    (case c14 => k_is)
    (case k14 => k_is)
    (case a15 => k_is)
    (case l15 => k_is)
    (case c15 => k_is)
    (case k15 => k_is)
    (case a16 => k_is)
    (case l16 => k_is)
    (case c16 => k_is)
    (case k16 => k_is)
    (case a17 => k_is)
    (case l17 => k_is)
    (case c17 => k_is)
    (case k17 => k_is)
    (case a18 => k_is)
    (case l18 => k_is)
    (case c18 => k_is)
    (case k18 => k_is)
    (case a19 => k_is)
    (case l19 => k_is)
    (case c19 => k_is)
    (case k19 => k_is)
    (case a20 => k_is)
    (case l20 => k_is)
    (case c20 => k_is)
    (case k20 => k_is)
    (case a21 => k_is)
    (case l21 => k_is)
    (case c21 => k_is)
    (case k21 => k_is)
    (case a22 => k_is)
    (case l22 => k_is)
    (case c22 => k_is)
    (case k22 => k_is)
    (case a23 => k_is)
    (case l23 => k_is)
    (case c23 => k_is)
    (case k23 => k_is)
    (case a24 => k_is)
    (case l24 => k_is)
    (case c24 => k_is)
    (case k24 => k_is)
    (case a25 => k_is)
    (case l25 => k_is)
    (case c25 => k_is)
    (case k25 => k_is)
    (case a26 => k_is)
    (case l26 => k_is)
    (case c26 => k_is)
    (case k26 => k_is)
    (case a27 => k_is)
    (case l27 => k_is)
    (case c27 => k_is)
    (case k27 => k_is)
    (case a28 => k_is)
    (case l28 => k_is)
    (case c28 => k_is)
    (case k28 => k_is)
    (case a29 => k_is)
    (case l29 => k_is)
    (case c29 => k_is)
    (case k29 => k_is)
    (case a30 => k_is)
    (case l30 => k_is)
    (case c30 => k_is)
    (case k30 => k_is)
    (case a31 => k_is)
    (case l31 => k_is)
    (case c31 => k_is)
    (case k31 => k_is)
    (case C0a => k_is)
    (case C1a => k_is)
    (case C2a => k_is)
    (case C3a => k_is)
    (case C4a => k_is)
    (case x0 => k_is)
    (case r0 => decide +kernel)
    (case sa0 => k_is)
    (case eC0 => k_is)
    (case tC0 => k_is)
    (case is0 => k_is)
    (case kC0 => k_is)
    (case ga0 => k_is)
    (case gg0 => k_is)
    (case hd0 => k_is)
    (case i0 => k_is)
    (case t0 => k_is)
    (case lI0 => k_is)
    (case cI0 => k_is)
    (case kI0 => k_is)
    (case n0_marks => k_is)
    (case x1 => k_is)
    (case r1 => decide +kernel)
    (case sa1 => k_is)
    (case eC1 => k_is)
    (case tC1 => k_is)
    (case is1 => k_is)
    (case kC1 => k_is)
    (case ga1 => k_is)
    (case gg1 => k_is)
    (case hd1 => k_is)
    (case i1 => k_is)
    (case t1 => k_is)
    (case lI1 => k_is)
    (case cI1 => k_is)
    (case kI1 => k_is)
    (case n1_index => k_is)
    (case n1_what => k_is)
    (case x2 => k_is)
    (case r2 => decide +kernel)
    (case sa2 => k_is)
    (case eC2 => k_is)
    (case tC2 => k_is)
    (case is2 => k_is)
    (case kC2 => k_is)
    (case ga2 => k_is)
    (case gg2 => k_is)
    (case hd2 => k_is)
    (case i2 => k_is)
    (case t2 => k_is)
    (case lI2 => k_is)
    (case cI2 => k_is)
    (case kI2 => k_is)
    (case n2_index => k_is)
    (case x3 => k_is)
    (case r3 => decide +kernel)
    (case sa3 => k_is)
    (case eC3 => k_is)
    (case tC3 => k_is)
    (case is3 => k_is)
    (case kC3 => k_is)
    (case ga3 => k_is)
    (case gg3 => k_is)
    (case hd3 => k_is)
    (case i3 => k_is)
    (case t3 => k_is)
    (case lI3 => k_is)
    (case cI3 => k_is)
    (case kI3 => k_is)
    (case n3_index => k_is)
    (case n3_what => k_is)
    (case Bsp => k_is)
    (case Brd => k_is)
    (case BvI => k_is)
    (case e0_0 => first | rfl | k_is)
    (case e0_1 => first | rfl | k_is)
    (case e0_2 => first | rfl | k_is)
    (case e0_3 => first | rfl | k_is)
    (case e1_0 => first | rfl | k_is)
    (case e1_1 => first | rfl | k_is)
    (case e1_2 => first | rfl | k_is)
    (case e1_3 => first | rfl | k_is)
    (case e2_0 => first | rfl | k_is)
    (case e2_1 => first | rfl | k_is)
    (case e2_2 => first | rfl | k_is)
    (case e2_3 => first | rfl | k_is)
    (case e3_0 => first | rfl | k_is)
    (case e3_1 => first | rfl | k_is)
    (case e3_2 => first | rfl | k_is)
    (case e3_3 => first | rfl | k_is)
    (case z_abs => k_is)
    (case z_all => k_is)
    (case z_bool => k_is)
    (case z_enumerate => k_is)
    (case z_int => k_is)
    (case z_isinstance => k_is)
    (case z_len => k_is)
    (case z_list => k_is)
    (case z_range => k_is)
    (case z_tuple => k_is)
    (case v_MOST_COLOUR => k_is)
    (case v_MOST_POURS => k_is)
    (case v_MOST_MARKS => k_is)
    (case v_MOST_SIGHTS => k_is)
