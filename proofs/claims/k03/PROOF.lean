import PyProof.Rows.All
import Wide.All
import OpenK.AllK
import Wide.FinOn
import HandS.ForMost
import HandS.WordsExc
import HandS.Defaults
import HandS.IsInst
import HandS.TupAny
import HandS.Wide
import HandS.ExcInit
import HandS.ExcField
import HandS.CallSlots
import HandS.TryMany
import HandS.Flow
import HandS.FStr
import HandS.Walk
import KE.GoesMore
import HandS.More
import PyProof.ReprRoads
import PyProof.ReprBulk
import HandS.SetFor
import HandS.Strs
import HandS.Dict
import HandS.TryOnly
import HandS.DeepEq
import HandS.DictComp
import PyProof.NeKinds
import HandS.Conv
import HandS.SetBool
import HandS.Codes
import HandS.OwnEq
import OpenK.KOps
import HandS.TupSets
import HandS.SortInts
import HandS.SortRule
import PySem.Challenge.RW_spreadhues_k03_whole_neighbours_and_new
set_option Elab.async false
set_option linter.all false
set_option maxRecDepth 100000
/-! Dm: Python over plain data. A def's value is told by a Lean function over D; the judgements Ev, Sl below say that a reading does what that function says. -/
namespace Dm
open PySem PySem.Spec PyProof.Rows L2
abbrev Sl := List (Option V)

/-- plain data -/
inductive D where
  | non | bl (b : Bool) | int (i : Int) | str (x : Str)
  | lst (xs : List D) | tup (xs : List D) | obj (c : Nat) (fs : List D) | dct (kvs : List (Key × V)) | lnt (xs : List D)

/-- what is known of the classes: the written part; a class's address, its fields' names -/
structure Wo where
  K : PySem.W.Frag
  cl : Nat → Addr
  fn : Nat → List Str

mutual
/-- the value v stands for the data d -/
inductive Rp (Z : Wo) (H : Hp) : V → D → Prop
  | non : Rp Z H .non .non
  | bl (b : Bool) : Rp Z H (.bl b) (.bl b)
  | int (i : Int) : Rp Z H (.int i) (.int i)
  | str (x : Str) : Rp Z H (.str x) (.str x)
  | lst {a : Addr} {xs : List V} {ds : List D} : H a = some (.lst xs) → RpAll Z H xs ds → Rp Z H (.ref a) (.lst ds)
  | tup {a : Addr} {xs : List V} {ds : List D} : H a = some (.tup xs) → RpAll Z H xs ds → Rp Z H (.ref a) (.tup ds)
  | obj {a dx : Addr} {c : Nat} {xs : List V} {ds : List D} : H a = some (.ins (Z.cl c) dx ((Z.fn c).zip xs)) → (Z.fn c).length = xs.length → RpAll Z H xs ds → Rp Z H (.ref a) (.obj c ds)
  | dct {a : Addr} {kvs : List (Key × V)} : H a = some (.dK kvs) → Rp Z H (.ref a) (.dct kvs)
  | lnt {a : Addr} {o : Obj} {xs : List V} {ds : List D} : H a = some (.frz o (.lst xs)) → RpAll Z H xs ds → Rp Z H (.ref a) (.lnt ds)
inductive RpAll (Z : Wo) (H : Hp) : List V → List D → Prop
  | nil : RpAll Z H [] []
  | cons {v : V} {vs : List V} {d : D} {ds : List D} : Rp Z H v d → RpAll Z H vs ds → RpAll Z H (v :: vs) (d :: ds)
end
mutual
theorem Rp.mono {Z : Wo} {H H' : Hp} (e : Same H H') : ∀ {v : V} {d : D}, Rp Z H v d → Rp Z H' v d
  | _, _, .non => .non
  | _, _, .bl b => .bl b
  | _, _, .int i => .int i
  | _, _, .str x => .str x
  | _, _, .lst h r => .lst (e _ _ h) (RpAll.mono e r)
  | _, _, .tup h r => .tup (e _ _ h) (RpAll.mono e r)
  | _, _, .obj h l r => .obj (e _ _ h) l (RpAll.mono e r)
  | _, _, .dct h => .dct (e _ _ h)
  | _, _, .lnt h r => .lnt (e _ _ h) (RpAll.mono e r)
theorem RpAll.mono {Z : Wo} {H H' : Hp} (e : Same H H') : ∀ {vs : List V} {ds : List D}, RpAll Z H vs ds → RpAll Z H' vs ds
  | _, _, .nil => .nil
  | _, _, .cons h r => .cons (Rp.mono e h) (RpAll.mono e r)
end
section
variable {Z : Wo} {H : Hp}
theorem RpAll.length : ∀ {vs : List V} {ds : List D}, RpAll Z H vs ds → vs.length = ds.length
  | _, _, .nil => rfl
  | _, _, .cons _ r => congrArg Nat.succ r.length
theorem RpAll.get : ∀ {vs : List V} {ds : List D} {i : Nat} {d : D}, RpAll Z H vs ds → ds[i]? = some d → ∃ v, vs[i]? = some v ∧ Rp Z H v d
  | _, _, _, _, .nil, e => by simp at e
  | _, _, 0, _, .cons h _, e => by
    simp at e
    subst e
    exact ⟨_, rfl, h⟩
  | _, _, i + 1, _, .cons _ r, e => by
    obtain ⟨v, q, z⟩ := RpAll.get (i := i) r (by simpa using e)
    exact ⟨v, by simpa using q, z⟩
theorem RpAll.getV : ∀ {vs : List V} {ds : List D} {i : Nat} {v : V}, RpAll Z H vs ds → vs[i]? = some v → ∃ d, ds[i]? = some d ∧ Rp Z H v d
  | _, _, _, _, .nil, e => by simp at e
  | _, _, 0, _, .cons h _, e => by
    simp at e
    subst e
    exact ⟨_, rfl, h⟩
  | _, _, i + 1, _, .cons _ r, e => by
    obtain ⟨v, q, z⟩ := RpAll.getV (i := i) r (by simpa using e)
    exact ⟨v, by simpa using q, z⟩
theorem RpAll.append : ∀ {xs ys : List V} {ds es : List D}, RpAll Z H xs ds → RpAll Z H ys es → RpAll Z H (xs ++ ys) (ds ++ es)
  | _, _, _, _, .nil, s => s
  | _, _, _, _, .cons h r, s => .cons h (RpAll.append r s)
theorem RpAll.take : ∀ (n : Nat) {xs : List V} {ds : List D}, RpAll Z H xs ds → RpAll Z H (xs.take n) (ds.take n)
  | 0, _, _, _ => .nil
  | _ + 1, _, _, .nil => .nil
  | n + 1, _, _, .cons h r => .cons h (RpAll.take n r)
theorem RpAll.drop : ∀ (n : Nat) {xs : List V} {ds : List D}, RpAll Z H xs ds → RpAll Z H (xs.drop n) (ds.drop n)
  | 0, _, _, r => r
  | _ + 1, _, _, .nil => .nil
  | n + 1, _, _, .cons _ r => RpAll.drop n r
theorem RpAll.set {v : V} {d : D} (h : Rp Z H v d) : ∀ (i : Nat) {xs : List V} {ds : List D}, RpAll Z H xs ds → RpAll Z H (xs.set i v) (ds.set i d)
  | _, _, _, .nil => .nil
  | 0, _, _, .cons _ r => .cons h r
  | i + 1, _, _, .cons q r => .cons q (RpAll.set h i r)
theorem RpAll.eraseIdx : ∀ (i : Nat) {xs : List V} {ds : List D}, RpAll Z H xs ds → RpAll Z H (xs.eraseIdx i) (ds.eraseIdx i)
  | _, _, _, .nil => .nil
  | 0, _, _, .cons _ r => r
  | i + 1, _, _, .cons q r => .cons q (RpAll.eraseIdx i r)
theorem RpAll.one {v : V} {d : D} (h : Rp Z H v d) : RpAll Z H [v] [d] := .cons h .nil
end

/-! ### what stands apart: the cells that are a def's own -/
abbrev Led := List (Addr × HO)
/-- G: what stays as it is; L: what may change; both stand in H -/
structure Wd (G : Hp) (L : Led) (H : Hp) : Prop where
  same : Same G H
  nd : (L.map Prod.fst).Nodup
  own : ∀ p ∈ L, H p.1 = some p.2 ∧ G p.1 = none

theorem same_new {H : Hp} {p : Addr} {o : HO} (h : H p = none) : Same H (upd H p o) := fun b x e => by
  rw [upd_ne (ne_of_none e h)]
  exact e
section
variable {G H : Hp} {L B : Led} {p : Addr} {o o' : HO}
theorem Wd.free (w : Wd G L H) (h : H p = none) : G p = none := w.same.free h
/-- a new thing that stays -/
theorem Wd.lay (w : Wd G L H) (h : H p = none) : Wd (upd G p o) L (upd H p o) where
  same := fun b x e => by
    by_cases hb : b = p
    · subst hb
      rw [upd_same] at e ⊢
      exact e
    · rw [upd_ne hb] at e ⊢
      exact w.same b x e
  nd := w.nd
  own := fun q hq => by
    obtain ⟨h1, h2⟩ := w.own q hq
    have e : q.1 ≠ p := ne_of_none h1 h
    rw [upd_ne e, upd_ne e]
    exact ⟨h1, h2⟩
theorem Wd.layS (w : Wd G L H) (h : H p = none) : Same G (upd G p o) := same_new (w.free h)
/-- a new thing that may change -/
theorem Wd.keep (w : Wd G L H) (h : H p = none) : Wd G ((p, o) :: L) (upd H p o) where
  same := fun b x e => by
    rw [upd_ne (ne_of_none (w.same b x e) h)]
    exact w.same b x e
  nd := by
    rw [List.map_cons, List.nodup_cons]
    refine ⟨fun hm => ?_, w.nd⟩
    obtain ⟨q, hq, e⟩ := List.mem_map.mp hm
    have z := (w.own q hq).1
    rw [e, h] at z
    cases z
  own := fun q hq => by
    rcases List.mem_cons.mp hq with e | hq
    · subst e
      exact ⟨upd_same, w.free h⟩
    · obtain ⟨h1, h2⟩ := w.own q hq
      rw [upd_ne (ne_of_none h1 h)]
      exact ⟨h1, h2⟩
/-- it stays from now on -/
theorem Wd.frz (w : Wd G ((p, o) :: L) H) : Wd (upd G p o) L H where
  same := fun b x e => by
    by_cases hb : b = p
    · subst hb
      rw [upd_same] at e
      cases e
      exact (w.own (b, o) List.mem_cons_self).1
    · rw [upd_ne hb] at e
      exact w.same b x e
  nd := (List.nodup_cons.mp (by simpa using w.nd)).2
  own := fun q hq => by
    obtain ⟨h1, h2⟩ := w.own q (List.mem_cons_of_mem _ hq)
    have nd : p ∉ L.map Prod.fst := (List.nodup_cons.mp (by simpa using w.nd)).1
    have e : q.1 ≠ p := fun z => nd (List.mem_map.mpr ⟨q, hq, z⟩)
    rw [upd_ne e]
    exact ⟨h1, h2⟩
theorem Wd.frzS (w : Wd G ((p, o) :: L) H) : Same G (upd G p o) := same_new (w.own (p, o) List.mem_cons_self).2
/-- fewer cells -/
theorem Wd.sub {L' : Led} (w : Wd G L H) (s : List.Sublist L' L) : Wd G L' H where
  same := w.same
  nd := (List.Sublist.map Prod.fst s).nodup w.nd
  own := fun q hq => w.own q (s.subset hq)
/-- one of them is changed -/
theorem Wd.put {L1 L2 : Led} (w : Wd G (L1 ++ (p, o) :: L2) H) : Wd G (L1 ++ (p, o') :: L2) (upd H p o') where
  same := fun b x e => by
    have hp := (w.own (p, o) (by simp)).2
    rw [upd_ne (ne_of_none e hp)]
    exact w.same b x e
  nd := by
    have h := w.nd
    simp only [List.map_append, List.map_cons] at h ⊢
    exact h
  own := fun q hq => by
    have nd := w.nd
    rw [List.map_append, List.map_cons] at nd
    have h2 := List.nodup_append.mp nd
    have n2 := List.nodup_cons.mp h2.2.1
    rcases List.mem_append.mp hq with h | h
    · have e : q.1 ≠ p := fun z => h2.2.2 q.1 (List.mem_map.mpr ⟨q, h, rfl⟩) p (List.mem_cons_self ..) z
      rw [upd_ne e]
      exact w.own q (List.mem_append_left _ h)
    · rcases List.mem_cons.mp h with e | h
      · subst e
        exact ⟨upd_same, (w.own (p, o) (by simp)).2⟩
      · have e : q.1 ≠ p := fun z => n2.1 (List.mem_map.mpr ⟨q, h, z⟩)
        rw [upd_ne e]
        exact w.own q (List.mem_append_right _ (List.mem_cons_of_mem _ h))
end

/-! ### the slots, told by data -/
inductive Cell where
  | U | P (d : D) | O (ds : List D) | A (a : Addr) (F : Hp → Prop) | Q (dss : List (List D))
abbrev Env := List Cell
/-- own lists in a row -/
inductive QAll (Z : Wo) (G : Hp) : List V → List (List D) → Led → Prop
  | nil : QAll Z G [] [] []
  | cons {b : Addr} {ys : List V} {es : List D} {vs : List V} {dss : List (List D)} {L : Led} : RpAll Z G ys es → QAll Z G vs dss L → QAll Z G (.ref b :: vs) (es :: dss) ((b, .lst ys) :: L)
theorem QAll.mono {Z : Wo} {G G' : Hp} (s : Same G G') : ∀ {vs : List V} {dss : List (List D)} {L : Led}, QAll Z G vs dss L → QAll Z G' vs dss L
  | _, _, _, .nil => .nil
  | _, _, _, .cons r q => .cons (r.mono s) (q.mono s)
/-- Q: an own list of own lists; U: nothing is known; P: it stays; O: a list of the def's own; A: the thing at a (the hand, an error that is caught), of which F is known -/
inductive Cells (Z : Wo) (G : Hp) : Env → Sl → Led → Prop
  | nil : Cells Z G [] [] []
  | U {e : Env} {σ : Sl} {L : Led} {x : Option V} : Cells Z G e σ L → Cells Z G (.U :: e) (x :: σ) L
  | P {e : Env} {σ : Sl} {L : Led} {v : V} {d : D} : Rp Z G v d → Cells Z G e σ L → Cells Z G (.P d :: e) (some v :: σ) L
  | O {e : Env} {σ : Sl} {L : Led} {p : Addr} {xs : List V} {ds : List D} : RpAll Z G xs ds → Cells Z G e σ L → Cells Z G (.O ds :: e) (some (.ref p) :: σ) ((p, .lst xs) :: L)
  | A {e : Env} {σ : Sl} {L : Led} {a : Addr} {F : Hp → Prop} : (∀ G', Same G G' → F G') → Cells Z G e σ L → Cells Z G (.A a F :: e) (some (.ref a) :: σ) L
  | Q {e : Env} {σ : Sl} {L Li : Led} {p : Addr} {xs : List V} {dss : List (List D)} : QAll Z G xs dss Li → Cells Z G e σ L → Cells Z G (.Q dss :: e) (some (.ref p) :: σ) ((p, .lst xs) :: (Li ++ L))
section
variable {Z : Wo} {G G' H : Hp} {L B : Led}
theorem Cells.mono (s : Same G G') : ∀ {e : Env} {σ : Sl} {L : Led}, Cells Z G e σ L → Cells Z G' e σ L
  | _, _, _, .nil => .nil
  | _, _, _, .U c => .U (c.mono s)
  | _, _, _, .P r c => .P (r.mono s) (c.mono s)
  | _, _, _, .O r c => .O (r.mono s) (c.mono s)
  | _, _, _, .A f c => .A (fun G2 s2 => f G2 (s.trans s2)) (c.mono s)
  | _, _, _, .Q q c => .Q (q.mono s) (c.mono s)
theorem Cells.var : ∀ {e : Env} {σ : Sl} {L : Led} {i : Nat} {d : D}, Cells Z G e σ L → e[i]? = some (.P d) → ∃ v, σ[i]? = some (some v) ∧ Rp Z G v d
  | _, _, _, _, _, .nil, h => by simp at h
  | _, _, _, 0, _, .U c, h => by simp at h
  | _, _, _, 0, _, .P r c, h => by
    simp at h
    subst h
    exact ⟨_, rfl, r⟩
  | _, _, _, 0, _, .O r c, h => by simp at h
  | _, _, _, 0, _, .A f c, h => by simp at h
  | _, _, _, i + 1, _, .U c, h => by simpa using c.var (i := i) (by simpa using h)
  | _, _, _, i + 1, _, .P r c, h => by simpa using c.var (i := i) (by simpa using h)
  | _, _, _, i + 1, _, .O r c, h => by simpa using c.var (i := i) (by simpa using h)
  | _, _, _, i + 1, _, .A f c, h => by simpa using c.var (i := i) (by simpa using h)
  | _, _, _, 0, _, .Q f c, h => by simp at h
  | _, _, _, i + 1, _, .Q f c, h => by simpa using c.var (i := i) (by simpa using h)
theorem Cells.hand : ∀ {e : Env} {σ : Sl} {L : Led} {i : Nat} {a : Addr} {F : Hp → Prop}, Cells Z G e σ L → e[i]? = some (.A a F) → σ[i]? = some (some (.ref a)) ∧ F G
  | _, _, _, _, _, _, .nil, h => by simp at h
  | _, _, _, 0, _, _, .U c, h => by simp at h
  | _, _, _, 0, _, _, .P r c, h => by simp at h
  | _, _, _, 0, _, _, .O r c, h => by simp at h
  | _, _, _, 0, _, _, .A f c, h => by
    simp at h
    obtain ⟨rfl, rfl⟩ := h
    exact ⟨rfl, f G (Same.refl _)⟩
  | _, _, _, i + 1, _, _, .U c, h => by simpa using c.hand (i := i) (by simpa using h)
  | _, _, _, i + 1, _, _, .P r c, h => by simpa using c.hand (i := i) (by simpa using h)
  | _, _, _, i + 1, _, _, .O r c, h => by simpa using c.hand (i := i) (by simpa using h)
  | _, _, _, i + 1, _, _, .A f c, h => by simpa using c.hand (i := i) (by simpa using h)
  | _, _, _, 0, _, _, .Q f c, h => by simp at h
  | _, _, _, i + 1, _, _, .Q f c, h => by simpa using c.hand (i := i) (by simpa using h)
/-- the own list in slot i: where it stands in the ledger; what a change of it makes -/
theorem Cells.own : ∀ {e : Env} {σ : Sl} {L : Led} {i : Nat} {ds : List D}, Cells Z G e σ L → e[i]? = some (.O ds) →
    ∃ (p : Addr) (xs : List V) (L1 L2 : Led), σ[i]? = some (some (.ref p)) ∧ L = L1 ++ (p, .lst xs) :: L2 ∧ RpAll Z G xs ds ∧
      ∀ G' ys es, Same G G' → RpAll Z G' ys es → Cells Z G' (e.set i (.O es)) σ (L1 ++ (p, .lst ys) :: L2)
  | _, _, _, _, _, .nil, h => by simp at h
  | _, _, _, 0, _, .U c, h => by simp at h
  | _, _, _, 0, _, .P r c, h => by simp at h
  | _, _, _, 0, _, .O r c, h => by
    simp at h
    subst h
    exact ⟨_, _, [], _, rfl, rfl, r, fun G' ys es s q => .O q (c.mono s)⟩
  | _, _, _, 0, _, .A f c, h => by simp at h
  | _, _, _, i + 1, _, .U c, h => by
    obtain ⟨p, xs, L1, L2, a1, a2, a3, a4⟩ := c.own (i := i) (by simpa using h)
    exact ⟨p, xs, L1, L2, by simpa using a1, a2, a3, fun G' ys es s q => .U (a4 G' ys es s q)⟩
  | _, _, _, i + 1, _, .P r c, h => by
    obtain ⟨p, xs, L1, L2, a1, a2, a3, a4⟩ := c.own (i := i) (by simpa using h)
    exact ⟨p, xs, L1, L2, by simpa using a1, a2, a3, fun G' ys es s q => .P (r.mono s) (a4 G' ys es s q)⟩
  | _, _, _, i + 1, _, .O (p := p0) (xs := xs0) r c, h => by
    obtain ⟨p, xs, L1, L2, a1, a2, a3, a4⟩ := c.own (i := i) (by simpa using h)
    exact ⟨p, xs, (p0, .lst xs0) :: L1, L2, by simpa using a1, by rw [a2]; rfl, a3, fun G' ys es s q => .O (r.mono s) (a4 G' ys es s q)⟩
  | _, _, _, i + 1, _, .A f c, h => by
    obtain ⟨p, xs, L1, L2, a1, a2, a3, a4⟩ := c.own (i := i) (by simpa using h)
    exact ⟨p, xs, L1, L2, by simpa using a1, a2, a3, fun G' ys es s q => .A (fun G2 s2 => f G2 (s.trans s2)) (a4 G' ys es s q)⟩
  | _, _, _, 0, _, .Q f c, h => by simp at h
  | _, _, _, i + 1, _, .Q (p := p0) (xs := xs0) (Li := Li) f c, h => by
    obtain ⟨p, xs, L1, L2, a1, a2, a3, a4⟩ := c.own (i := i) (by simpa using h)
    refine ⟨p, xs, (p0, .lst xs0) :: (Li ++ L1), L2, by simpa using a1, by rw [a2, List.cons_append, List.append_assoc], a3, fun G' ys es s q => ?_⟩
    rw [List.cons_append, List.append_assoc]
    exact .Q (f.mono s) (a4 G' ys es s q)
/-- slot i gets a value that stays; an own list that stood there is let go -/
theorem Cells.set {v : V} {d : D} (r : Rp Z G v d) : ∀ {e : Env} {σ : Sl} {L : Led} (i : Nat), Cells Z G e σ L → ∃ L', List.Sublist L' L ∧ Cells Z G (e.set i (.P d)) (σ.set i (some v)) L'
  | _, _, _, _, .nil => ⟨_, List.Sublist.refl _, .nil⟩
  | _, _, _, 0, .U c => ⟨_, List.Sublist.refl _, .P r c⟩
  | _, _, _, 0, .P q c => ⟨_, List.Sublist.refl _, .P r c⟩
  | _, _, _, 0, .O q c => ⟨_, List.sublist_cons_self _ _, .P r c⟩
  | _, _, _, 0, .A f c => ⟨_, List.Sublist.refl _, .P r c⟩
  | _, _, _, 0, .Q q c => ⟨_, (List.sublist_append_right _ _).cons _, .P r c⟩
  | _, _, _, i + 1, .Q q c => by
    obtain ⟨L', s, c'⟩ := c.set r i
    exact ⟨_, ((List.Sublist.refl _).append s).cons₂ _, .Q q c'⟩
  | _, _, _, i + 1, .U c => by
    obtain ⟨L', s, c'⟩ := c.set r i
    exact ⟨L', s, .U c'⟩
  | _, _, _, i + 1, .P q c => by
    obtain ⟨L', s, c'⟩ := c.set r i
    exact ⟨L', s, .P q c'⟩
  | _, _, _, i + 1, .O q c => by
    obtain ⟨L', s, c'⟩ := c.set r i
    exact ⟨_, s.cons₂ _, .O q c'⟩
  | _, _, _, i + 1, .A f c => by
    obtain ⟨L', s, c'⟩ := c.set r i
    exact ⟨L', s, .A f c'⟩
/-- slot i is forgotten, whatever it holds -/
theorem Cells.unset {x : Option V} : ∀ {e : Env} {σ : Sl} {L : Led} (i : Nat), Cells Z G e σ L → ∃ L', List.Sublist L' L ∧ Cells Z G (e.set i .U) (σ.set i x) L'
  | _, _, _, _, .nil => ⟨_, List.Sublist.refl _, .nil⟩
  | _, _, _, 0, .U c => ⟨_, List.Sublist.refl _, .U c⟩
  | _, _, _, 0, .P q c => ⟨_, List.Sublist.refl _, .U c⟩
  | _, _, _, 0, .O q c => ⟨_, List.sublist_cons_self _ _, .U c⟩
  | _, _, _, 0, .A f c => ⟨_, List.Sublist.refl _, .U c⟩
  | _, _, _, 0, .Q q c => ⟨_, (List.sublist_append_right _ _).cons _, .U c⟩
  | _, _, _, i + 1, .Q q c => by
    obtain ⟨L', s, c'⟩ := c.unset (x := x) i
    exact ⟨_, ((List.Sublist.refl _).append s).cons₂ _, .Q q c'⟩
  | _, _, _, i + 1, .U c => by
    obtain ⟨L', s, c'⟩ := c.unset (x := x) i
    exact ⟨L', s, .U c'⟩
  | _, _, _, i + 1, .P q c => by
    obtain ⟨L', s, c'⟩ := c.unset (x := x) i
    exact ⟨L', s, .P q c'⟩
  | _, _, _, i + 1, .O q c => by
    obtain ⟨L', s, c'⟩ := c.unset (x := x) i
    exact ⟨_, s.cons₂ _, .O q c'⟩
  | _, _, _, i + 1, .A f c => by
    obtain ⟨L', s, c'⟩ := c.unset (x := x) i
    exact ⟨L', s, .A f c'⟩
/-- less is known -/
inductive Wk : Env → Env → Prop
  | nil : Wk [] []
  | keep {c : Cell} {e f : Env} : Wk e f → Wk (c :: e) (c :: f)
  | drop {c : Cell} {e f : Env} : Wk e f → Wk (c :: e) (.U :: f)
theorem Wk.refl : ∀ e : Env, Wk e e
  | [] => .nil
  | _ :: e => .keep (Wk.refl e)
theorem Cells.weak : ∀ {e f : Env}, Wk e f → ∀ {σ : Sl} {L : Led}, Cells Z G e σ L → ∃ L', List.Sublist L' L ∧ Cells Z G f σ L'
  | _, _, .nil, _, _, c => ⟨_, List.Sublist.refl _, c⟩
  | _, _, .keep w, _, _, .U c => by
    obtain ⟨L', s, c'⟩ := c.weak w
    exact ⟨L', s, .U c'⟩
  | _, _, .keep w, _, _, .P q c => by
    obtain ⟨L', s, c'⟩ := c.weak w
    exact ⟨L', s, .P q c'⟩
  | _, _, .keep w, _, _, .O q c => by
    obtain ⟨L', s, c'⟩ := c.weak w
    exact ⟨_, s.cons₂ _, .O q c'⟩
  | _, _, .keep w, _, _, .A f c => by
    obtain ⟨L', s, c'⟩ := c.weak w
    exact ⟨L', s, .A f c'⟩
  | _, _, .keep w, _, _, .Q q c => by
    obtain ⟨L', s, c'⟩ := c.weak w
    exact ⟨_, ((List.Sublist.refl _).append s).cons₂ _, .Q q c'⟩
  | _, _, .drop w, _, _, .U c => by
    obtain ⟨L', s, c'⟩ := c.weak w
    exact ⟨L', s, .U c'⟩
  | _, _, .drop w, _, _, .P q c => by
    obtain ⟨L', s, c'⟩ := c.weak w
    exact ⟨L', s, .U c'⟩
  | _, _, .drop w, _, _, .O q c => by
    obtain ⟨L', s, c'⟩ := c.weak w
    exact ⟨L', s.cons _, .U c'⟩
  | _, _, .drop w, _, _, .A f c => by
    obtain ⟨L', s, c'⟩ := c.weak w
    exact ⟨L', s, .U c'⟩
  | _, _, .drop w, _, _, .Q q c => by
    obtain ⟨L', s, c'⟩ := c.weak w
    exact ⟨L', (s.trans (List.sublist_append_right _ _)).cons _, .U c'⟩
end
/-- the slots σ show ρ, L is the def's own; what is the caller's own, B, stands as it is told -/
def Ok (Z : Wo) (B : Led) (ρ : Env) (G : Hp) (σ : Sl) (L : Led) (H : Hp) : Prop := Cells Z G ρ σ L ∧ Wd G (L ++ B) H
section
variable {Z : Wo} {G G' H : Hp} {B L : Led} {ρ : Env} {σ : Sl}
theorem Ok.wd (o : Ok Z B ρ G σ L H) : Wd G B H := o.2.sub (List.sublist_append_right _ _)
theorem Ok.same (o : Ok Z B ρ G σ L H) : Same G H := o.2.same
theorem Ok.lay {p : Addr} {u : HO} (o : Ok Z B ρ G σ L H) (h : H p = none) : Same G (upd G p u) ∧ Ok Z B ρ (upd G p u) σ L (upd H p u) :=
  ⟨o.2.layS h, o.1.mono (o.2.layS h), o.2.lay h⟩
theorem Ok.weak {f : Env} (k : Wk ρ f) (o : Ok Z B ρ G σ L H) : ∃ L', Ok Z B f G σ L' H := by
  obtain ⟨L', s, c'⟩ := o.1.weak k
  exact ⟨L', c', o.2.sub (List.Sublist.append s (List.Sublist.refl _))⟩
theorem Ok.set {i : Nat} {v : V} {d : D} (o : Ok Z B ρ G σ L H) (r : Rp Z G v d) : ∃ L', Ok Z B (ρ.set i (.P d)) G (σ.set i (some v)) L' H := by
  obtain ⟨L', s, c'⟩ := o.1.set r i
  exact ⟨L', c', o.2.sub (List.Sublist.append s (List.Sublist.refl _))⟩
theorem Ok.unset {i : Nat} {x : Option V} (o : Ok Z B ρ G σ L H) : ∃ L', Ok Z B (ρ.set i .U) G (σ.set i x) L' H := by
  obtain ⟨L', s, c'⟩ := o.1.unset (x := x) i
  exact ⟨L', c', o.2.sub (List.Sublist.append s (List.Sublist.refl _))⟩
theorem Ok.own {i : Nat} {ds : List D} (o : Ok Z B ρ G σ L H) (h : ρ[i]? = some (.O ds)) : ∃ (p : Addr) (xs : List V) (L1 L2 : Led), σ[i]? = some (some (.ref p)) ∧ L = L1 ++ (p, .lst xs) :: L2 ∧ H p = some (.lst xs) ∧ RpAll Z G xs ds ∧
    ∀ G' ys es, Same G G' → RpAll Z G' ys es → Cells Z G' (ρ.set i (.O es)) σ (L1 ++ (p, .lst ys) :: L2) := by
  obtain ⟨c, w⟩ := o
  obtain ⟨p, xs, L1, L2, a1, a2, a3, a4⟩ := c.own h
  subst a2
  exact ⟨p, xs, L1, L2, a1, rfl, (w.own (p, .lst xs) (by simp)).1, a3, a4⟩
end
theorem Wd.perm {G H : Hp} {L L' : Led} (p : L'.Perm L) (w : Wd G L H) : Wd G L' H where
  same := w.same
  nd := (p.map Prod.fst).nodup_iff.mpr w.nd
  own := fun q hq => w.own q (p.mem_iff.mp hq)
end Dm

set_option Elab.async false
set_option linter.all false
set_option maxRecDepth 100000
namespace Dm
open PySem PySem.Spec PyProof.Rows L2

/-- what a run gives: nothing is said; an own error (its class, its fields); a value -/
inductive Rs (S α : Type) where
  | stuck | ex (c : Nat) (fs : List D) (s : S) | ok (a : α) (s : S)
abbrev MS (S α : Type) := S → Rs S α
section
variable {S α β γ : Type}
def ret (a : α) : MS S α := fun s => .ok a s
def stk : MS S α := fun _ => .stuck
def rse (c : Nat) (fs : List D) : MS S α := fun s => .ex c fs s
def Rs.go (r : Rs S α) (k : α → MS S β) : Rs S β := match r with
  | .stuck => .stuck
  | .ex c fs s => .ex c fs s
  | .ok a s => k a s
def bnd (m : MS S α) (k : α → MS S β) : MS S β := fun s => (m s).go k
def lft (o : Option α) : MS S α := match o with
  | none => stk
  | some a => ret a
theorem bnd_ret (a : α) (k : α → MS S β) : bnd (ret a) k = k a := rfl
theorem bnd_stk (k : α → MS S β) : bnd (stk : MS S α) k = stk := rfl
theorem bnd_rse (c : Nat) (fs : List D) (k : α → MS S β) : bnd (rse c fs : MS S α) k = rse c fs := rfl
theorem lft_some (a : α) : (lft (some a) : MS S α) = ret a := rfl
theorem lft_none : (lft (none : Option α) : MS S α) = stk := rfl
theorem bnd_bnd (m : MS S α) (k : α → MS S β) (l : β → MS S γ) : bnd (bnd m k) l = bnd m fun a => bnd (k a) l := by
  funext s
  show ((m s).go k).go l = (m s).go fun a => bnd (k a) l
  cases m s <;> rfl
theorem bnd_ite (b : Prop) [Decidable b] (m n : MS S α) (k : α → MS S β) : bnd (if b then m else n) k = if b then bnd m k else bnd n k := by
  by_cases h : b
  · rw [if_pos h, if_pos h]
  · rw [if_neg h, if_neg h]
end

/-- where a derivation stands: the classes; what the caller keeps of its own, by the state; what is wished of what is raised -/
structure Jc (S : Type) where
  Z : Wo
  lay : S → Led
  X : Value → Option Addr → Sl → Hp → Prop

section
variable {S : Type} (J : Jc S)
/-- an own error at dx's dict -/
def Out (ρ : Env) (σ : Sl) (L : Led) (G : Hp) (c : Nat) (fs : List D) (s : S) : Prop := ∀ dx vs G' H', Same G G' → Ok J.Z (J.lay s) ρ G' σ L H' → G' dx = some (.xd ((J.Z.fn c).zip vs)) → (J.Z.fn c).length = vs.length → RpAll J.Z G' vs fs → J.X (.ref (J.Z.cl c)) (some dx) σ H'
def Pst {α β : Type} (ρ : Env) (σ : Sl) (L : Led) (G : Hp) (R : Sl → Hp → β → α → Prop) (Q : β → Hp → Prop) : Rs S α → Prop
  | .stuck => False
  | .ex c fs s => Out J ρ σ L G c fs s
  | .ok a s => ∀ b G' H', Same G G' → Ok J.Z (J.lay s) ρ G' σ L H' → R σ G' b a → Q b H'
/-- t does what m says -/
def EvG {α β : Type} (R : Sl → Hp → β → α → Prop) (t : Sl → Hp → (β → Hp → Prop) → Prop) (ρ : Env) (m : MS S α) : Prop :=
  ∀ σ G s H L, Ok J.Z (J.lay s) ρ G σ L H → ∀ Q, Pst J ρ σ L G R Q (m s) → t σ H Q
def rP (_ : Sl) (G : Hp) (v : V) (d : D) : Prop := Rp J.Z G v d
def rA (_ : Sl) (G : Hp) (vs : List V) (ds : List D) : Prop := RpAll J.Z G vs ds
/-- it stays, or it is the own list of a slot -/
def rX (ρ : Env) (σ : Sl) (G : Hp) (v : V) (d : D) : Prop := Rp J.Z G v d ∨ ∃ (i : Nat) (ds : List D), ρ[i]? = some (.O ds) ∧ σ[i]? = some (some v) ∧ d = .lst ds
def rE {α : Type} (_ : Sl) (_ : Hp) (a b : α) : Prop := a = b
abbrev Ev (te : TE) (ρ : Env) (m : MS S D) : Prop := EvG J (rP J) te ρ m
abbrev EvX (te : TE) (ρ : Env) (m : MS S D) : Prop := EvG J (rX J ρ) te ρ m
abbrev EvA (ta : TA) (ρ : Env) (m : MS S (List D)) : Prop := EvG J (rA J) ta ρ m
abbrev EvT (tt : TT) (ρ : Env) (m : MS S Bool) : Prop := EvG J rE tt ρ m
abbrev EvO (to : TO) (ρ : Env) (m : MS S (Option Int)) : Prop := EvG J rE to ρ m
end
section
variable {S : Type} {J : Jc S} {α β γ δ : Type} {ρ : Env} {σ : Sl} {G G' H : Hp} {L : Led}
theorem Out.mono {c : Nat} {fs : List D} {s : S} (e : Same G G') (h : Out J ρ σ L G c fs s) : Out J ρ σ L G' c fs s := fun dx vs G2 H2 a b => h dx vs G2 H2 (e.trans a) b
theorem Pst.mono {R : Sl → Hp → β → α → Prop} {Q : β → Hp → Prop} (e : Same G G') : ∀ {r : Rs S α}, Pst J ρ σ L G R Q r → Pst J ρ σ L G' R Q r
  | .stuck, h => h
  | .ex _ _ _, h => Out.mono e h
  | .ok _ _, h => fun b G2 H2 a c => h b G2 H2 (e.trans a) c
theorem EvG.run {R1 : Sl → Hp → β → α → Prop} {R2 : Sl → Hp → δ → γ → Prop} {t : Sl → Hp → (β → Hp → Prop) → Prop} {Q : δ → Hp → Prop} {m : MS S α} {k : α → MS S γ} {s : S} (h1 : EvG J R1 t ρ m) (o : Ok J.Z (J.lay s) ρ G σ L H)
    (h : Pst J ρ σ L G R2 Q (bnd m k s)) {P : β → Hp → Prop} (kk : ∀ a b G' s' H', Same G G' → Ok J.Z (J.lay s') ρ G' σ L H' → R1 σ G' b a → Pst J ρ σ L G' R2 Q (k a s') → P b H') : t σ H P := by
  refine h1 σ G s H L o _ ?_
  have h' : Pst J ρ σ L G R2 Q ((m s).go k) := h
  cases e : m s with
  | stuck =>
    rw [e] at h'
    exact h'
  | ex c fs s' =>
    rw [e] at h'
    exact h'
  | ok a s' =>
    rw [e] at h'
    exact fun b G' H' sm o' r => kk a b G' s' H' sm o' r (Pst.mono sm h')
/-- a value that is at hand -/
theorem EvG.pure {R : Sl → Hp → β → α → Prop} {t : Sl → Hp → (β → Hp → Prop) → Prop} {a : α} (h : ∀ σ G s H L, Ok J.Z (J.lay s) ρ G σ L H → ∀ Q : β → Hp → Prop, (∀ b G' H', Same G G' → Ok J.Z (J.lay s) ρ G' σ L H' → R σ G' b a → Q b H') → t σ H Q) : EvG J R t ρ (ret a) :=
  fun σ G s H L o Q q => h σ G s H L o Q q
/-- what is left open may be anything -/
theorem Pst.lft {R : Sl → Hp → β → α → Prop} {Q : β → Hp → Prop} {o : Option α} {s : S} {P : Prop} (h : Pst J ρ σ L G R Q ((lft o : MS S α) s)) (k : ∀ a, o = some a → Pst J ρ σ L G R Q (.ok a s) → P) : P := by
  cases o with
  | none => exact h.elim
  | some a => exact k a rfl h
theorem Ev.x {te : TE} {m : MS S D} (h : Ev J te ρ m) : EvX J te ρ m := fun σ G s H L o Q q => h σ G s H L o Q (by
  cases e : m s with
  | stuck =>
    rw [e] at q
    exact q
  | ex c fs s' =>
    rw [e] at q
    exact q
  | ok a s' =>
    rw [e] at q
    exact fun b G' H' sm o' r => q b G' H' sm o' (.inl r))
theorem rX.mono {v : V} {d : D} (e : Same G G') (h : rX J ρ σ G v d) : rX J ρ σ G' v d := h.imp (fun r => r.mono e) id
/-- reading a list that stays or is a slot's own -/
theorem rX.lst {B : Led} {v : V} {ds : List D} (o : Ok J.Z B ρ G σ L H) (h : rX J ρ σ G v (.lst ds)) : ∃ a xs, v = .ref a ∧ H a = some (.lst xs) ∧ RpAll J.Z G xs ds := by
  rcases h with h | ⟨i, es, h1, h2, h3⟩
  · cases h with
    | lst ha r => exact ⟨_, _, rfl, o.same _ _ ha, r⟩
  · cases h3
    obtain ⟨p, xs, _, _, a1, _, a2, a3, _⟩ := o.own h1
    rw [a1] at h2
    cases h2
    exact ⟨p, xs, rfl, a2, a3⟩
theorem rX.lnt {B : Led} {v : V} {ds : List D} (o : Ok J.Z B ρ G σ L H) (h : rX J ρ σ G v (.lnt ds)) : ∃ a u xs, v = .ref a ∧ H a = some (.frz u (.lst xs)) ∧ RpAll J.Z G xs ds := by
  rcases h with h | ⟨i, es, h1, h2, h3⟩
  · cases h with
    | lnt ha r => exact ⟨_, _, _, rfl, o.same _ _ ha, r⟩
  · cases h3
theorem rX.tup {B : Led} {v : V} {ds : List D} (o : Ok J.Z B ρ G σ L H) (h : rX J ρ σ G v (.tup ds)) : ∃ a xs, v = .ref a ∧ H a = some (.tup xs) ∧ RpAll J.Z G xs ds := by
  rcases h with h | ⟨i, es, h1, h2, h3⟩
  · cases h with
    | tup ha r => exact ⟨_, _, rfl, o.same _ _ ha, r⟩
  · cases h3
theorem rX.dct {B : Led} {v : V} {kvs : List (Key × V)} (o : Ok J.Z B ρ G σ L H) (h : rX J ρ σ G v (.dct kvs)) : ∃ a, v = .ref a ∧ H a = some (.dK kvs) := by
  rcases h with h | ⟨i, es, h1, h2, h3⟩
  · cases h with
    | dct ha => exact ⟨_, rfl, o.same _ _ ha⟩
  · cases h3
theorem rX.obj {B : Led} {v : V} {c : Nat} {ds : List D} (o : Ok J.Z B ρ G σ L H) (h : rX J ρ σ G v (.obj c ds)) : ∃ a dx xs, v = .ref a ∧ H a = some (.ins (J.Z.cl c) dx ((J.Z.fn c).zip xs)) ∧ (J.Z.fn c).length = xs.length ∧ RpAll J.Z G xs ds := by
  rcases h with h | ⟨i, es, h1, h2, h3⟩
  · cases h with
    | obj ha hl r => exact ⟨_, _, _, rfl, o.same _ _ ha, hl, r⟩
  · cases h3
theorem rX.int {v : V} {i : Int} (h : rX J ρ σ G v (.int i)) : v = .int i := by
  rcases h with h | ⟨_, _, _, _, h3⟩
  · cases h
    rfl
  · cases h3
theorem rX.bl {v : V} {b : Bool} (h : rX J ρ σ G v (.bl b)) : v = .bl b := by
  rcases h with h | ⟨_, _, _, _, h3⟩
  · cases h
    rfl
  · cases h3
theorem rX.str {v : V} {x : Str} (h : rX J ρ σ G v (.str x)) : v = .str x := by
  rcases h with h | ⟨_, _, _, _, h3⟩
  · cases h
    rfl
  · cases h3
theorem rX.non {v : V} (h : rX J ρ σ G v .non) : v = .non := by
  rcases h with h | ⟨_, _, _, _, h3⟩
  · cases h
    rfl
  · cases h3

/-! ### names and constants -/
theorem ev_var {i : Nat} {d : D} (h : ρ[i]? = some (.P d)) : Ev J (tVar i) ρ (ret d) := EvG.pure fun σ G s H L o Q q => by
  obtain ⟨v, h1, h2⟩ := o.1.var h
  exact ⟨v, h1, q v G H (Same.refl _) o h2⟩
theorem ex_own {i : Nat} {ds : List D} (h : ρ[i]? = some (.O ds)) : EvX J (tVar i) ρ (ret (.lst ds)) := EvG.pure fun σ G s H L o Q q => by
  obtain ⟨p, xs, _, _, h1, _, _, _, _⟩ := o.own h
  exact ⟨.ref p, h1, q _ G H (Same.refl _) o (.inr ⟨i, ds, h, h1, rfl⟩)⟩
theorem ev_int {i : Int} : Ev J (tC (.int i)) ρ (ret (.int i)) := EvG.pure fun σ G s H L o Q q => q _ G H (Same.refl _) o (.int i)
theorem ev_bl {b : Bool} : Ev J (tC (.bl b)) ρ (ret (.bl b)) := EvG.pure fun σ G s H L o Q q => q _ G H (Same.refl _) o (.bl b)
theorem ev_str {x : Str} : Ev J (tC (.str x)) ρ (ret (.str x)) := EvG.pure fun σ G s H L o Q q => q _ G H (Same.refl _) o (.str x)
theorem ev_non : Ev J (tC .non) ρ (ret .non) := EvG.pure fun σ G s H L o Q q => q _ G H (Same.refl _) o .non

/-! ### operators by values: f says what r gives -/
/-- r reads only -/
def Op2 (J : Jc S) (ρ : Env) (r : R2) (f : D → D → Option D) : Prop := ∀ σ G s H L x y d e z, Ok J.Z (J.lay s) ρ G σ L H → rX J ρ σ G x d → rX J ρ σ G y e → f d e = some z →
  ∀ Q : VK, (∀ v G' H', Same G G' → Ok J.Z (J.lay s) ρ G' σ L H' → Rp J.Z G' v z → Q v H') → r x y H Q
theorem ev_op {r : R2} {ta tb : TE} {f : D → D → Option D} {ma mb : MS S D} (ho : Op2 J ρ r f) (ha : EvX J ta ρ ma) (hb : EvX J tb ρ mb) : Ev J (tOp r ta tb) ρ (bnd ma fun d => bnd mb fun e => lft (f d e)) :=
  fun σ G s H L o Q h => ha.run o h fun d x G1 s1 H1 e1 o1 rx h1 => hb.run o1 h1 fun e y G2 s2 H2 e2 o2 ry h2 => Pst.lft h2 fun z hz q => ho σ G2 s2 H2 L x y d e z o2 (rX.mono e2 rx) ry hz Q q
end
end Dm

set_option Elab.async false
set_option linter.all false
set_option maxRecDepth 100000
namespace Dm
open PySem PySem.Spec PyProof.Rows L2

/-! ### more than one reading of an operator -/
theorem OpR.either {X : Cx} {f : Value → Value → Sem Value} {r r' : R2} (h : OpR X f r) (h' : OpR X f r') : OpR X f (fun x y H Q => r x y H Q ∨ r' x y H Q) :=
  fun pins s σ H x y v u Q I rx ry q => q.elim (h pins s σ H x y v u Q I rx ry) (h' pins s σ H x y v u Q I rx ry)
theorem CallR.either {X : Cx} {f : Value} {r r' : List V → Hp → VK → Prop} (h : CallR X f r) (h' : CallR X f r') : CallR X f (fun xs H Q => r xs H Q ∨ r' xs H Q) :=
  fun pins s σ H xs us Q I rx q => q.elim (h pins s σ H xs us Q I rx) (h' pins s σ H xs us Q I rx)

/-! ### what the operators do to data -/
def tooLong : Nat := 1000000
theorem long_ok {n : Nat} (h : n < tooLong) : n ≤ sizeLine := Nat.le_of_lt (Nat.lt_trans h (by decide))
theorem long_lt {n : Nat} (h : n < tooLong) : n < sizeLine := Nat.lt_trans h (by decide)
def oI (f : Int → Int → Int) : D → D → Option D
  | .int i, .int j => some (.int (f i j))
  | _, _ => none
def oB (f : Int → Int → Bool) : D → D → Option D
  | .int i, .int j => some (.bl (f i j))
  | _, _ => none
def oIc (C : Int → Int → Bool) (f : Int → Int → Int) : D → D → Option D
  | .int i, .int j => if C i j then some (.int (f i j)) else none
  | _, _ => none
def oSub : D → D → Option D := oI fun i j => i - j
def oMod : D → D → Option D := oIc (fun _ j => decide (j ≠ 0)) fun i j => i.fmod j
def oDiv : D → D → Option D := oIc (fun _ j => decide (0 < j ∧ j.natAbs.log2 < 9000)) fun i j => i / j
def oPow : D → D → Option D := oIc (fun i j => decide (0 ≤ j ∧ j ≤ 1000000 ∧ i.natAbs < 2 ^ 64)) fun i j => i ^ j.toNat
def oLt : D → D → Option D := oB fun i j => decide (i < j)
def oLe : D → D → Option D := oB fun i j => decide (i ≤ j)
def oGt : D → D → Option D := oB fun i j => decide (j < i)
def oGe : D → D → Option D := oB fun i j => decide (j ≤ i)
/-- + of ints, texts, lists, tuples -/
def oAdd : D → D → Option D
  | .int i, .int j => some (.int (i + j))
  | .str x, .str y => if x.length + y.length < tooLong then some (.str (x ++ y)) else none
  | .lst xs, .lst ys => if xs.length + ys.length < tooLong then some (.lst (xs ++ ys)) else none
  | .tup xs, .tup ys => if xs.length + ys.length < tooLong then some (.tup (xs ++ ys)) else none
  | _, _ => none
/-- * of ints; a list several times -/
def oMul : D → D → Option D
  | .int i, .int j => if i.natAbs.log2 + j.natAbs.log2 < 1000000 then some (.int (i * j)) else none
  | .lst xs, .int k => if xs.length * k.toNat < tooLong ∧ k.natAbs < 2305843009213693952 then some (.lst (List.replicate k.toNat xs).flatten) else none
  | _, _ => none
def oNeg : D → Option D
  | .int i => some (.int (-i))
  | _ => none
def isN : D → Bool
  | .non => true
  | _ => false
def oIs (a : D) : D → Option D
  | .non => some (.bl (isN a))
  | _ => none
def oNis (a : D) : D → Option D
  | .non => some (.bl (!isN a))
  | _ => none
/-! as data that == compares -/
mutual
def toPy : D → Option PyData
  | .non => some .none
  | .bl b => some (.bool b)
  | .int i => some (.int i)
  | .str x => some (.str x)
  | .lst xs => (toPys xs).map PyData.list
  | .tup xs => (toPys xs).map PyData.tuple
  | .obj _ _ => none
  | .dct _ => none
  | .lnt xs => (toPys xs).map PyData.list
def toPys : List D → Option (List PyData)
  | [] => some []
  | x :: xs => match toPy x, toPys xs with
    | some a, some b => some (a :: b)
    | _, _ => none
end
def eqD0 (d e : D) : Option Bool := match toPy d, toPy e with
  | some a, some b => if SeqAt.shaped a && SeqAt.shaped b then some (PyData.eqv a b) else none
  | _, _ => none
def eqD (d e : D) : Option Bool := match d, e with
  | .str x, .str y => some (decide (x = y))
  | d, e => eqD0 d e
theorem eqD_or {d e : D} {b : Bool} (h : eqD d e = some b) : (∃ x y, d = .str x ∧ e = .str y ∧ b = decide (x = y)) ∨ eqD0 d e = some b := by
  unfold eqD at h
  split at h
  · cases h
    exact .inl ⟨_, _, rfl, rfl, rfl⟩
  · exact .inr h
theorem eqD_up {d : D} (h : eqD0 d d = some true) : eqD d d = some true := by
  cases d <;> first | exact h | (show some (decide _) = _; rw [decide_eq_true rfl])
def rEqX (K : PySem.W.Frag) : R2 := fun x y H Q => rEqD K x y H Q ∨ rEq x y H Q
def rNeX (K : PySem.W.Frag) : R2 := fun x y H Q => rNeD K x y H Q ∨ rNe x y H Q
def oEq (d e : D) : Option D := (eqD d e).map D.bl
def oNe (d e : D) : Option D := (eqD d e).map fun b => .bl (!b)
/-- a value without parts -/
def flt : D → Option V
  | .non => some .non
  | .bl b => some (.bl b)
  | .int i => some (.int i)
  | .str x => some (.str x)
  | _ => none
def flts : List D → Option (List V)
  | [] => some []
  | x :: xs => match flt x, flts xs with
    | some a, some b => some (a :: b)
    | _, _ => none
def items : D → Option (List D)
  | .lst xs => some xs
  | .tup xs => some xs
  | .lnt xs => some xs
  | _ => none
def memD (d e : D) : Option Bool := match flt d, (items e).bind flts with
  | some v, some vs => some (inV v vs)
  | _, _ => none
def oIn (d e : D) : Option D := (memD d e).map D.bl
def oNin (d e : D) : Option D := (memD d e).map fun b => .bl (!b)
def oIx : D → D → Option D
  | .lst xs, .int i => atI xs i
  | .tup xs, .int i => atI xs i
  | .lnt xs, .int i => atI xs i
  | .str z, .int i => if z.length < tooLong then (atI z.cps.toList i).map fun c => .str ⟨#[c]⟩ else none
  | _, _ => none
def cut {α : Type} (xs : List α) (lo hi : Option Int) : List α := (xs.drop (HT.sIx xs.length 0 lo)).take (HT.sIx xs.length xs.length hi - HT.sIx xs.length 0 lo)
def oSl (d : D) (lo hi : Option Int) : Option D := match d with
  | .lst xs => some (.lst (cut xs lo hi))
  | .tup xs => some (.tup (cut xs lo hi))
  | .lnt xs => some (.lst (cut xs lo hi))
  | .str z => if z.length < tooLong then some (.str (cutS z lo hi)) else none
  | _ => none
def oInt? : D → Option (Option Int)
  | .int i => some (some i)
  | _ => none
/-- truth -/
def tru : D → Option Bool
  | .non => some false
  | .bl b => some b
  | .int i => some (i != 0)
  | .str y => if y.length < tooLong then some ((y.length : Int) != 0) else none
  | .lst xs => some (!xs.isEmpty)
  | .tup xs => some (!xs.isEmpty)
  | .dct kvs => some (!kvs.isEmpty)
  | .obj _ _ => none
  | .lnt xs => some (!xs.isEmpty)
def asB : D → Option Bool
  | .bl b => some b
  | _ => none
def oLen : D → Option D
  | .lst xs => some (.int xs.length)
  | .tup xs => some (.int xs.length)
  | .lnt xs => some (.int xs.length)
  | .str z => if z.length < tooLong then some (.int z.length) else none
  | .dct kvs => some (.int kvs.length)
  | _ => none
def oList : D → Option (List D) := items
def oTuple (d : D) : Option D := (items d).map D.tup
def oAbs : D → Option D
  | .int i => some (.int (if i < 0 then -i else i))
  | _ => none
def oMax2 : D → D → Option D := oI fun i j => if j > i then j else i
def oMin2 : D → D → Option D := oI fun i j => if j < i then j else i
def oIntOf : D → Option D
  | .int i => some (.int i)
  | .bl k => some (.int (if k then 1 else 0))
  | _ => none
def oNot (d : D) : Option D := (tru d).map fun b => .bl (!b)

section
variable {S : Type} {J : Jc S} {α β γ δ : Type} {ρ : Env} {σ : Sl} {G G' H : Hp} {B L : Led}
theorem rX.flt {v u : V} {d : D} (h : rX J ρ σ G v d) (e : flt d = some u) : v = u := by
  cases d with
  | non => cases e; exact rX.non h
  | bl b => cases e; exact rX.bl h
  | int i => cases e; exact rX.int h
  | str x => cases e; exact rX.str h
  | _ => cases e
theorem RpAll.flts {Z : Wo} : ∀ {vs us : List V} {ds : List D}, RpAll Z G vs ds → flts ds = some us → vs = us
  | _, _, _, .nil, e => by
    cases e
    rfl
  | v :: vs, us, d :: ds, .cons h r, e => by
    unfold Dm.flts at e
    cases e1 : Dm.flt d with
    | none => rw [e1] at e; cases e
    | some a =>
      rw [e1] at e
      cases e2 : Dm.flts ds with
      | none => rw [e2] at e; cases e
      | some b =>
        rw [e2] at e
        cases e
        have h1 : v = a := by
          cases d with
          | non => cases e1; cases h; rfl
          | bl b => cases e1; cases h; rfl
          | int i => cases e1; cases h; rfl
          | str x => cases e1; cases h; rfl
          | _ => cases e1
        rw [h1, r.flts e2]
theorem flt_flat : ∀ {d : D} {v : V}, flt d = some v → flatV v = true
  | .non, _, e => by cases e; rfl
  | .bl _, _, e => by cases e; rfl
  | .int _, _, e => by cases e; rfl
  | .str _, _, e => by cases e; rfl
  | .lst _, _, e => by cases e
  | .tup _, _, e => by cases e
  | .obj _ _, _, e => by cases e
  | .dct _, _, e => by cases e
theorem flts_flat : ∀ {ds : List D} {vs : List V}, flts ds = some vs → vs.all flatV = true
  | [], _, e => by cases e; rfl
  | d :: ds, vs, e => by
    unfold Dm.flts at e
    cases e1 : Dm.flt d with
    | none => rw [e1] at e; cases e
    | some a =>
      rw [e1] at e
      cases e2 : Dm.flts ds with
      | none => rw [e2] at e; cases e
      | some b =>
        rw [e2] at e
        cases e
        rw [List.all_cons, flt_flat e1, flts_flat e2]
        rfl
theorem rX.items {v : V} {d : D} {ds : List D} (o : Ok J.Z B ρ G σ L H) (h : rX J ρ σ G v d) (e : items d = some ds) : ∃ p xs, v = .ref p ∧ RpAll J.Z G xs ds ∧ (((d = .lst ds ∨ d = .lnt ds) ∧ Rd H p (.lst xs)) ∨ (d = .tup ds ∧ H p = some (.tup xs))) := by
  cases d with
  | lst xs =>
    cases e
    obtain ⟨a, ys, h1, h2, h3⟩ := rX.lst o h
    exact ⟨a, ys, h1, h3, .inl ⟨.inl rfl, .inl h2⟩⟩
  | lnt xs =>
    cases e
    obtain ⟨a, u, ys, h1, h2, h3⟩ := rX.lnt o h
    exact ⟨a, ys, h1, h3, .inl ⟨.inr rfl, .inr ⟨u, h2⟩⟩⟩
  | tup xs =>
    cases e
    obtain ⟨a, ys, h1, h2, h3⟩ := rX.tup o h
    exact ⟨a, ys, h1, h3, .inr ⟨rfl, h2⟩⟩
  | _ => cases e
theorem sq_l {K : PySem.W.Frag} {a : Addr} {xs : List V} (h : H a = some (.lst xs)) : SqL K H a xs := .inl (.inl h)
theorem sq_f {K : PySem.W.Frag} {a : Addr} {o : Obj} {xs : List V} (h : H a = some (.frz o (.lst xs))) : SqL K H a xs := .inl (.inr ⟨o, h⟩)
theorem sq_t {K : PySem.W.Frag} {a : Addr} {xs : List V} (h : H a = some (.tup xs)) : SqT K H a xs := .inl (.inl h)
mutual
theorem Rp.dp {Z : Wo} {K : PySem.W.Frag} (s : Same G H) : ∀ {d : D} {v : V} {a : PyData}, Rp Z G v d → toPy d = some a → Dp K H v a
  | .non, _, _, h, e => by cases e; cases h; exact .non
  | .bl b, _, _, h, e => by cases e; cases h; exact .bl b
  | .int i, _, _, h, e => by cases e; cases h; exact .int i
  | .str x, _, _, h, e => by cases e; cases h; exact .str x
  | .lst ds, _, _, h, e => by
    unfold toPy at e
    cases e1 : toPys ds with
    | none => rw [e1] at e; cases e
    | some as =>
      rw [e1] at e
      cases e
      cases h with
      | lst ha r => exact .lst (sq_l (s _ _ ha)) (RpAll.dp s r e1)
  | .tup ds, _, _, h, e => by
    unfold toPy at e
    cases e1 : toPys ds with
    | none => rw [e1] at e; cases e
    | some as =>
      rw [e1] at e
      cases e
      cases h with
      | tup ha r => exact .tup (sq_t (s _ _ ha)) (RpAll.dp s r e1)
  | .obj _ _, _, _, _, e => by cases e
  | .dct _, _, _, _, e => by cases e
  | .lnt ds, _, _, h, e => by
    unfold toPy at e
    cases e1 : toPys ds with
    | none => rw [e1] at e; cases e
    | some as =>
      rw [e1] at e
      cases e
      cases h with
      | lnt ha r => exact .lst (sq_f (s _ _ ha)) (RpAll.dp s r e1)
theorem RpAll.dp {Z : Wo} {K : PySem.W.Frag} (s : Same G H) : ∀ {ds : List D} {vs : List V} {as : List PyData}, RpAll Z G vs ds → toPys ds = some as → DpAll K H vs as
  | [], _, _, h, e => by
    cases e
    cases h
    exact .nil
  | d :: ds, _, _, h, e => by
    unfold toPys at e
    cases e1 : toPy d with
    | none => rw [e1] at e; cases e
    | some a =>
      cases e2 : toPys ds with
      | none => rw [e1, e2] at e; cases e
      | some b =>
        rw [e1, e2] at e
        cases e
        cases h with
        | cons h1 h2 => exact .cons (Rp.dp s h1 e1) (RpAll.dp s h2 e2)
end
theorem rX.dp {K : PySem.W.Frag} {v : V} {d : D} {a : PyData} (o : Ok J.Z B ρ G σ L H) (h : rX J ρ σ G v d) (e : toPy d = some a) : Dp K H v a := by
  rcases h with h | ⟨i, ds, h1, h2, h3⟩
  · exact h.dp o.same e
  · obtain ⟨p, xs, q1, q2, q3⟩ := rX.lst (J := J) (ds := ds) o (.inr ⟨i, ds, h1, h2, rfl⟩)
    subst q1
    subst h3
    unfold toPy at e
    cases e1 : toPys ds with
    | none => rw [e1] at e; cases e
    | some as =>
      rw [e1] at e
      cases e
      exact .lst (sq_l q2) (q3.dp o.same e1)

/-! ### the operators' readings -/
theorem o2_I {f : Int → Int → Int} : Op2 J ρ (rI0 fun i j => .int (f i j)) (oI f) := fun σ G s H L x y d e z o rx ry hz Q q => by
  cases d with
  | int i =>
    cases e with
    | int j =>
      cases hz
      exact ⟨i, j, rX.int rx, rX.int ry, q _ G H (Same.refl _) o (.int _)⟩
    | _ => cases hz
  | _ => cases hz
theorem o2_B {f : Int → Int → Bool} : Op2 J ρ (rI0 fun i j => .bl (f i j)) (oB f) := fun σ G s H L x y d e z o rx ry hz Q q => by
  cases d with
  | int i =>
    cases e with
    | int j =>
      cases hz
      exact ⟨i, j, rX.int rx, rX.int ry, q _ G H (Same.refl _) o (.bl _)⟩
    | _ => cases hz
  | _ => cases hz
theorem o2_Ic {C : Int → Int → Prop} {Cb : Int → Int → Bool} {f : Int → Int → Int} (hC : ∀ i j, Cb i j = true → C i j) : Op2 J ρ (rI C fun i j => .int (f i j)) (oIc Cb f) := fun σ G s H L x y d e z o rx ry hz Q q => by
  cases d with
  | int i =>
    cases e with
    | int j =>
      unfold oIc at hz
      dsimp only at hz
      by_cases h : Cb i j = true
      · rw [if_pos h] at hz
        cases hz
        exact ⟨i, j, rX.int rx, rX.int ry, hC i j h, q _ G H (Same.refl _) o (.int _)⟩
      · rw [if_neg h] at hz
        cases hz
    | _ => cases hz
  | _ => cases hz
theorem o2_sub : Op2 J ρ (rI0 fun i j => .int (i - j)) oSub := o2_I
theorem o2_mod : Op2 J ρ (rI (fun _ j => j ≠ 0) fun i j => .int (i.fmod j)) oMod := o2_Ic fun _ _ h => of_decide_eq_true h
theorem o2_div : Op2 J ρ (rI CDivW fun i j => .int (i / j)) oDiv := o2_Ic fun i j h => show (0 < j ∧ j.natAbs.log2 < 9000) from of_decide_eq_true h
theorem o2_pow : Op2 J ρ (rI CPow fun i j => .int (i ^ j.toNat)) oPow := o2_Ic fun i j h => show (0 ≤ j ∧ j ≤ 1000000 ∧ i.natAbs < 2 ^ 64) from of_decide_eq_true h
theorem o2_lt : Op2 J ρ (rI0 fun i j => .bl (decide (i < j))) oLt := o2_B
theorem o2_le : Op2 J ρ (rI0 fun i j => .bl (decide (i ≤ j))) oLe := o2_B
theorem o2_gt : Op2 J ρ (rI0 fun i j => .bl (decide (j < i))) oGt := o2_B
theorem o2_ge : Op2 J ρ (rI0 fun i j => .bl (decide (j ≤ i))) oGe := o2_B
def rAdd (K : PySem.W.Frag) : R2 := fun x y H Q => ((rI0 (fun i j => .int (i + j)) x y H Q ∨ (∃ i j, x = .str i ∧ y = .str j ∧ i.length + j.length ≤ sizeLine ∧ Q (.str (i ++ j)) H)) ∨ rCat x y H Q) ∨ rCatA K x y H Q
theorem op_addG {X : Cx} : OpR X (binaryOp .Add) (rAdd X.K) := OpR.either (OpR.either (OpR.either op_add op_add_str) op_cat) op_catA
theorem rp_ref {Z : Wo} {v : V} {xs : List D} (h : Rp Z G v (.tup xs)) : ∃ a ys, v = .ref a ∧ G a = some (.tup ys) ∧ RpAll Z G ys xs := by
  cases h with
  | tup ha r => exact ⟨_, _, rfl, ha, r⟩
theorem o2_add {K : PySem.W.Frag} : Op2 J ρ (rAdd K) oAdd := fun σ G s H L x y d e z o rx ry hz Q q => by
  cases d with
  | int i =>
    cases e with
    | int j =>
      cases hz
      exact .inl (.inl (.inl ⟨i, j, rX.int rx, rX.int ry, q _ G H (Same.refl _) o (.int _)⟩))
    | _ => cases hz
  | str i =>
    cases e with
    | str j =>
      unfold oAdd at hz
      dsimp only at hz
      split at hz
      · rename_i hl
        cases hz
        exact .inl (.inl (.inr ⟨i, j, rX.str rx, rX.str ry, long_ok hl, q _ G H (Same.refl _) o (.str _)⟩))
      · cases hz
    | _ => cases hz
  | lst xs =>
    cases e with
    | lst ys =>
      unfold oAdd at hz
      dsimp only at hz
      split at hz
      · rename_i hl
        cases hz
        obtain ⟨a, vs, rfl, h1, r1⟩ := rX.lst o rx
        obtain ⟨b, us, rfl, h2, r2⟩ := rX.lst o ry
        refine .inl (.inr ⟨a, b, vs, us, rfl, rfl, h1, h2, long_ok (by rw [r1.length, r2.length]; exact hl), fun p hp => ?_⟩)
        obtain ⟨sm, o'⟩ := o.lay (u := .lst (vs ++ us)) hp
        exact q _ _ _ sm o' (.lst upd_same ((r1.append r2).mono sm))
      · cases hz
    | _ => cases hz
  | tup xs =>
    cases e with
    | tup ys =>
      unfold oAdd at hz
      dsimp only at hz
      split at hz
      · rename_i hl
        cases hz
        have rx' : Rp J.Z G x (.tup xs) := by
          rcases rx with h | ⟨_, _, _, _, h3⟩
          · exact h
          · cases h3
        have ry' : Rp J.Z G y (.tup ys) := by
          rcases ry with h | ⟨_, _, _, _, h3⟩
          · exact h
          · cases h3
        obtain ⟨a, vs, rfl, h1, r1⟩ := rp_ref rx'
        obtain ⟨b, us, rfl, h2, r2⟩ := rp_ref ry'
        have l1 := r1.length
        have l2 := r2.length
        refine .inr ⟨a, b, vs, us, rfl, rfl, sq_t (o.same _ _ h1), sq_t (o.same _ _ h2), long_ok (by rw [l1, l2]; exact hl), fun e0 => ?_, fun _ e0 => ?_, fun _ _ p hp => ?_⟩
        · subst e0
          have e1 : xs = [] := List.eq_nil_of_length_eq_zero l1.symm
          rw [e1] at q
          exact q _ G H (Same.refl _) o ry'
        · subst e0
          have e1 : ys = [] := List.eq_nil_of_length_eq_zero l2.symm
          rw [e1, List.append_nil] at q
          exact q _ G H (Same.refl _) o rx'
        · obtain ⟨sm, o'⟩ := o.lay (u := .tup (vs ++ us)) hp
          exact q _ _ _ sm o' (.tup upd_same ((r1.append r2).mono sm))
      · cases hz
    | _ => cases hz
  | _ => cases hz
def rMul : R2 := fun x y H Q => rI CMulW (fun i j => .int (i * j)) x y H Q ∨ rRep x y H Q
theorem op_mulG {X : Cx} : OpR X (binaryOp .Mult) rMul := OpR.either op_mulW op_rep
theorem RpAll.rep {Z : Wo} {xs : List V} {ds : List D} (r : RpAll Z G xs ds) : ∀ n : Nat, RpAll Z G (List.replicate n xs).flatten (List.replicate n ds).flatten
  | 0 => .nil
  | n + 1 => by
    rw [List.replicate_succ, List.replicate_succ, List.flatten_cons, List.flatten_cons]
    exact r.append (RpAll.rep r n)
theorem o2_mul : Op2 J ρ rMul oMul := fun σ G s H L x y d e z o rx ry hz Q q => by
  cases d with
  | int i =>
    cases e with
    | int j =>
      unfold oMul at hz
      dsimp only at hz
      split at hz
      · rename_i hl
        cases hz
        exact .inl ⟨i, j, rX.int rx, rX.int ry, hl, q _ G H (Same.refl _) o (.int _)⟩
      · cases hz
    | _ => cases hz
  | lst xs =>
    cases e with
    | int k =>
      unfold oMul at hz
      dsimp only at hz
      split at hz
      · rename_i hl
        cases hz
        obtain ⟨a, vs, rfl, h1, r1⟩ := rX.lst o rx
        refine .inr ⟨a, k, vs, rfl, rX.int ry, h1, by have := hl.2; omega, by have := hl.2; omega, long_ok (by rw [r1.length]; exact hl.1), fun p hp => ?_⟩
        obtain ⟨sm, o'⟩ := o.lay (u := .lst (List.replicate k.toNat vs).flatten) hp
        exact q _ _ _ sm o' (.lst upd_same ((r1.rep k.toNat).mono sm))
      · cases hz
    | _ => cases hz
  | _ => cases hz
theorem isN_dec {v : V} {d : D} (o : Ok J.Z B ρ G σ L H) (h : rX J ρ σ G v d) : decide (v = .non) = isN d := by
  cases d with
  | non =>
    rw [rX.non h]
    rfl
  | lst ds =>
    obtain ⟨a, _, rfl, _, _⟩ := rX.lst o h
    exact decide_eq_false fun e => by cases e
  | bl b =>
    rw [rX.bl h]
    exact decide_eq_false fun e => by cases e
  | int b =>
    rw [rX.int h]
    exact decide_eq_false fun e => by cases e
  | str b =>
    rw [rX.str h]
    exact decide_eq_false fun e => by cases e
  | tup ds =>
    obtain ⟨a, _, rfl, _, _⟩ := rX.tup o h
    exact decide_eq_false fun e => by cases e
  | dct ds =>
    obtain ⟨a, rfl, _⟩ := rX.dct o h
    exact decide_eq_false fun e => by cases e
  | obj c ds =>
    obtain ⟨a, _, _, rfl, _⟩ := rX.obj o h
    exact decide_eq_false fun e => by cases e
  | lnt ds =>
    obtain ⟨a, _, _, rfl, _⟩ := rX.lnt o h
    exact decide_eq_false fun e => by cases e
theorem o2_is : Op2 J ρ (fun x y H Q => y = .non ∧ Q (.bl (decide (x = .non))) H) oIs := fun σ G s H L x y d e z o rx ry hz Q q => by
  cases e with
  | non =>
    cases hz
    refine ⟨rX.non ry, ?_⟩
    rw [isN_dec o rx]
    exact q _ G H (Same.refl _) o (.bl _)
  | _ => cases hz
theorem o2_nis : Op2 J ρ (fun x y H Q => y = .non ∧ Q (.bl (!decide (x = .non))) H) oNis := fun σ G s H L x y d e z o rx ry hz Q q => by
  cases e with
  | non =>
    cases hz
    refine ⟨rX.non ry, ?_⟩
    rw [isN_dec o rx]
    exact q _ G H (Same.refl _) o (.bl _)
  | _ => cases hz
theorem eqD_some {d e : D} {b : Bool} (h : eqD0 d e = some b) : ∃ a c, toPy d = some a ∧ toPy e = some c ∧ SeqAt.shaped a = true ∧ SeqAt.shaped c = true ∧ PyData.eqv a c = b := by
  unfold eqD0 at h
  cases e1 : toPy d with
  | none => rw [e1] at h; cases h
  | some a =>
    cases e2 : toPy e with
    | none => rw [e1, e2] at h; cases h
    | some c =>
      rw [e1, e2] at h
      dsimp only at h
      by_cases hs : (SeqAt.shaped a && SeqAt.shaped c) = true
      · rw [if_pos hs] at h
        cases h
        rw [Bool.and_eq_true] at hs
        exact ⟨a, c, rfl, rfl, hs.1, hs.2, rfl⟩
      · rw [if_neg hs] at h
        cases h
theorem o2_eq {K : PySem.W.Frag} : Op2 J ρ (rEqX K) oEq := fun σ G s H L x y d e z o rx ry hz Q q => by
  unfold oEq at hz
  cases h : eqD d e with
  | none => rw [h] at hz; cases hz
  | some b =>
    rw [h] at hz
    cases hz
    rcases eqD_or h with ⟨i, j, rfl, rfl, hb⟩ | h
    · rw [rX.str rx, rX.str ry]
      refine .inr ⟨rfl, ?_⟩
      have e : decide (V.str i = V.str j) = b := by
        rw [hb]
        by_cases c : i = j
        · subst c
          simp
        · simp [c]
      rw [e]
      exact q _ G H (Same.refl _) o (.bl _)
    · obtain ⟨a, c, e1, e2, s1, s2, e3⟩ := eqD_some h
      subst e3
      exact .inl ⟨a, c, rX.dp o rx e1, rX.dp o ry e2, s1, s2, q _ G H (Same.refl _) o (.bl _)⟩
theorem o2_ne {K : PySem.W.Frag} : Op2 J ρ (rNeX K) oNe := fun σ G s H L x y d e z o rx ry hz Q q => by
  unfold oNe at hz
  cases h : eqD d e with
  | none => rw [h] at hz; cases hz
  | some b =>
    rw [h] at hz
    cases hz
    rcases eqD_or h with ⟨i, j, rfl, rfl, hb⟩ | h
    · rw [rX.str rx, rX.str ry]
      refine .inr ⟨rfl, ?_⟩
      have e : decide (V.str i = V.str j) = b := by
        rw [hb]
        by_cases c : i = j
        · subst c
          simp
        · simp [c]
      rw [e]
      exact q _ G H (Same.refl _) o (.bl _)
    · obtain ⟨a, c, e1, e2, s1, s2, e3⟩ := eqD_some h
      subst e3
      exact .inl ⟨a, c, rX.dp o rx e1, rX.dp o ry e2, s1, s2, q _ G H (Same.refl _) o (.bl _)⟩
theorem memD_in {K : PySem.W.Frag} {x y : V} {d e : D} {b : Bool} (o : Ok J.Z B ρ G σ L H) (rx : rX J ρ σ G x d) (ry : rX J ρ σ G y e) (h : memD d e = some b) :
    ∃ p xs, y = .ref p ∧ (SqL K H p xs ∨ SqT K H p xs) ∧ flatV x = true ∧ xs.all flatV = true ∧ inV x xs = b := by
  unfold memD at h
  cases e1 : flt d with
  | none => rw [e1] at h; cases h
  | some v =>
    cases e2 : items e with
    | none => rw [e1, e2] at h; cases h
    | some es =>
      cases e3 : flts es with
      | none =>
        rw [e1, e2] at h
        dsimp only [Option.bind] at h
        rw [e3] at h
        cases h
      | some vs =>
        rw [e1, e2] at h
        dsimp only [Option.bind] at h
        rw [e3] at h
        cases h
        obtain ⟨p, xs, h1, h2, h3⟩ := rX.items o ry e2
        have hx := rX.flt rx e1
        have hv := h2.flts e3
        subst hx
        subst hv
        refine ⟨p, xs, h1, ?_, flt_flat e1, flts_flat e3, rfl⟩
        exact h3.imp (fun h => .inl h.2) fun h => sq_t h.2
theorem o2_in {K : PySem.W.Frag} : Op2 J ρ (rIn K false) oIn := fun σ G s H L x y d e z o rx ry hz Q q => by
  unfold oIn at hz
  cases h : memD d e with
  | none => rw [h] at hz; cases hz
  | some b =>
    rw [h] at hz
    cases hz
    obtain ⟨p, xs, h1, h2, h3, h4, h5⟩ := memD_in (K := K) o rx ry h
    refine ⟨p, xs, h1, h2, h3, h4, ?_⟩
    rw [h5]
    exact q _ G H (Same.refl _) o (.bl _)
theorem o2_nin {K : PySem.W.Frag} : Op2 J ρ (rIn K true) oNin := fun σ G s H L x y d e z o rx ry hz Q q => by
  unfold oNin at hz
  cases h : memD d e with
  | none => rw [h] at hz; cases hz
  | some b =>
    rw [h] at hz
    cases hz
    obtain ⟨p, xs, h1, h2, h3, h4, h5⟩ := memD_in (K := K) o rx ry h
    refine ⟨p, xs, h1, h2, h3, h4, ?_⟩
    rw [h5]
    exact q _ G H (Same.refl _) o (.bl _)
theorem atI_rp {Z : Wo} {xs : List V} {ds : List D} {i : Int} {d : D} (r : RpAll Z G xs ds) (h : atI ds i = some d) : ∃ v, atI xs i = some v ∧ Rp Z G v d := by
  unfold atI at h ⊢
  rw [r.length]
  cases e : ixN ds.length i with
  | none => rw [e] at h; cases h
  | some j =>
    rw [e] at h
    exact r.get h
theorem o2_ix {K : PySem.W.Frag} : Op2 J ρ (rIx K) oIx := fun σ G s H L x y d e z o rx ry hz Q q => by
  cases e with
  | int i =>
    cases d with
    | lst ds =>
      obtain ⟨a, xs, h1, h2, h3⟩ := rX.lst o rx
      obtain ⟨v, h4, h5⟩ := atI_rp h3 hz
      exact .inl ⟨a, xs, i, v, h1, rX.int ry, sq_l h2, h4, q _ G H (Same.refl _) o h5⟩
    | tup ds =>
      obtain ⟨a, xs, h1, h2, h3⟩ := rX.tup o rx
      obtain ⟨v, h4, h5⟩ := atI_rp h3 hz
      exact .inr (.inl ⟨a, xs, i, v, h1, rX.int ry, sq_t h2, h4, q _ G H (Same.refl _) o h5⟩)
    | lnt ds =>
      obtain ⟨a, u, xs, h1, h2, h3⟩ := rX.lnt o rx
      obtain ⟨v, h4, h5⟩ := atI_rp h3 hz
      exact .inl ⟨a, xs, i, v, h1, rX.int ry, sq_f h2, h4, q _ G H (Same.refl _) o h5⟩
    | str w =>
      unfold oIx at hz
      dsimp only at hz
      split at hz
      · rename_i hl
        cases e1 : atI w.cps.toList i with
        | none => rw [e1] at hz; cases hz
        | some c =>
          rw [e1] at hz
          cases hz
          exact .inr (.inr ⟨w, i, c, rX.str rx, rX.int ry, long_ok hl, e1, q _ G H (Same.refl _) o (.str _)⟩)
      · cases hz
    | _ => cases hz
  | _ => cases d <;> cases hz
end
end Dm

set_option Elab.async false
set_option linter.all false
set_option maxRecDepth 100000
namespace Dm
open PySem PySem.Spec PyProof.Rows L2

section
variable {S : Type} {J : Jc S} {α β γ δ : Type} {ρ : Env} {σ : Sl} {G G' H : Hp} {B L : Led}

/-! ### tests -/
theorem et_of {t : TT} {te : TE} {f : D → Option Bool} {m : MS S D} (ht : t = fun σ H Q => te σ H fun x H1 => ∃ k, x = .bl k ∧ Q k H1) (hf : ∀ d b, f d = some b → d = .bl b) (h : EvX J te ρ m) : EvT J t ρ (bnd m fun d => lft (f d)) := fun σ G s H L o Q q => by
  subst ht
  refine h.run o q fun d x G1 s1 H1 e1 o1 rx q1 => Pst.lft q1 fun b hb q2 => ?_
  rw [hf d b hb] at rx
  exact ⟨b, rX.bl rx, q2 b G1 H1 (Same.refl _) o1 rfl⟩
theorem asB_eq : ∀ d b, asB d = some b → d = .bl b := fun d b h => by
  cases d with
  | bl c => cases h; rfl
  | _ => cases h
theorem et_B {te : TE} {m : MS S D} (h : Ev J te ρ m) : EvT J (tB te) ρ (bnd m fun d => lft (asB d)) := et_of rfl asB_eq h.x
theorem et_test {te : TE} {m : MS S D} (h : Ev J te ρ m) : EvT J (tTest te) ρ (bnd m fun d => lft (asB d)) := et_of rfl asB_eq h.x
theorem tru_ok {K : PySem.W.Frag} {x : V} {d : D} {b : Bool} (o : Ok J.Z B ρ G σ L H) (rx : rX J ρ σ G x d) (h : tru d = some b) : TruV K x H b := by
  cases d with
  | non => cases h; rw [rX.non rx]; rfl
  | bl c => cases h; rw [rX.bl rx]; rfl
  | int c => cases h; rw [rX.int rx]; rfl
  | str c =>
    unfold tru at h
    dsimp only at h
    split at h
    · rename_i hl
      cases h
      rw [rX.str rx]
      exact ⟨long_ok hl, rfl⟩
    · cases h
  | lst ds =>
    cases h
    obtain ⟨a, xs, rfl, h1, r⟩ := rX.lst o rx
    exact .inl ⟨xs, sq_l h1, by cases r <;> rfl⟩
  | tup ds =>
    cases h
    obtain ⟨a, xs, rfl, h1, r⟩ := rX.tup o rx
    exact .inr (.inl ⟨xs, sq_t h1, by cases r <;> rfl⟩)
  | dct kvs =>
    cases h
    obtain ⟨a, rfl, h1⟩ := rX.dct o rx
    exact .inr (.inr ⟨kvs, h1, rfl⟩)
  | obj c fs => cases h
  | lnt ds =>
    cases h
    obtain ⟨a, u, xs, rfl, h1, r⟩ := rX.lnt o rx
    exact .inl ⟨xs, sq_f h1, by cases r <;> rfl⟩
theorem et_tru {K : PySem.W.Frag} {te : TE} {m : MS S D} (h : EvX J te ρ m) : EvT J (fun σ H Q => te σ H fun x H1 => ∃ k, TruV K x H1 k ∧ Q k H1) ρ (bnd m fun d => lft (tru d)) := fun σ G s H L o Q q =>
  h.run o q fun d x G1 s1 H1 e1 o1 rx q1 => Pst.lft q1 fun b hb q2 => ⟨b, tru_ok o1 rx hb, q2 b G1 H1 (Same.refl _) o1 rfl⟩
theorem et_and {t u : TT} {m n : MS S Bool} (h1 : EvT J t ρ m) (h2 : EvT J u ρ n) : EvT J (tAnd t u) ρ (bnd m fun b => if b = true then n else ret false) := fun σ G s H L o Q q =>
  h1.run o q fun b c G1 s1 H1 e1 o1 hc q1 => by
    cases hc
    cases b with
    | true => exact h2 σ G1 s1 H1 L o1 Q q1
    | false => exact q1 false G1 H1 (Same.refl _) o1 rfl
theorem et_or {t u : TT} {m n : MS S Bool} (h1 : EvT J t ρ m) (h2 : EvT J u ρ n) : EvT J (tOr t u) ρ (bnd m fun b => if b = true then ret true else n) := fun σ G s H L o Q q =>
  h1.run o q fun b c G1 s1 H1 e1 o1 hc q1 => by
    cases hc
    cases b with
    | true => exact q1 true G1 H1 (Same.refl _) o1 rfl
    | false => exact h2 σ G1 s1 H1 L o1 Q q1
theorem et_not {t : TT} {m : MS S Bool} (h1 : EvT J t ρ m) : EvT J (tNot t) ρ (bnd m fun b => ret (!b)) := fun σ G s H L o Q q =>
  h1.run o q fun b c G1 s1 H1 e1 o1 hc q1 => by
    cases hc
    exact q1 (!b) G1 H1 (Same.refl _) o1 rfl

/-! ### values by tests -/
theorem ev_ifE {tt : TT} {ta tb : TE} {mt : MS S Bool} {ma mb : MS S D} (h : EvT J tt ρ mt) (h1 : Ev J ta ρ ma) (h2 : Ev J tb ρ mb) : Ev J (tIf tt ta tb) ρ (bnd mt fun b => if b = true then ma else mb) := fun σ G s H L o Q q =>
  h.run o q fun b c G1 s1 H1 e1 o1 hc q1 => by
    cases hc
    cases b with
    | true => exact h1 σ G1 s1 H1 L o1 Q q1
    | false => exact h2 σ G1 s1 H1 L o1 Q q1
theorem ev_andV {ta tb : TE} {ma mb : MS S D} (h1 : Ev J ta ρ ma) (h2 : Ev J tb ρ mb) : Ev J (tAndV ta tb) ρ (bnd ma fun d => bnd (lft (asB d)) fun b => if b = true then mb else ret (.bl false)) := fun σ G s H L o Q q =>
  h1.run o q fun d x G1 s1 H1 e1 o1 rx q1 => by
    cases e : asB d with
    | none =>
      rw [e] at q1
      exact q1.elim
    | some b =>
      rw [e] at q1
      rw [asB_eq d b e] at rx
      refine ⟨b, rX.bl (J := J) (ρ := ρ) (σ := σ) (.inl rx), ?_⟩
      cases b with
      | true => exact h2 σ G1 s1 H1 L o1 Q q1
      | false => exact q1 _ G1 H1 (Same.refl _) o1 (.bl _)
theorem ev_orV {ta tb : TE} {ma mb : MS S D} (h1 : Ev J ta ρ ma) (h2 : Ev J tb ρ mb) : Ev J (tOrV ta tb) ρ (bnd ma fun d => bnd (lft (asB d)) fun b => if b = true then ret (.bl true) else mb) := fun σ G s H L o Q q =>
  h1.run o q fun d x G1 s1 H1 e1 o1 rx q1 => by
    cases e : asB d with
    | none =>
      rw [e] at q1
      exact q1.elim
    | some b =>
      rw [e] at q1
      rw [asB_eq d b e] at rx
      refine ⟨b, rX.bl (J := J) (ρ := ρ) (σ := σ) (.inl rx), ?_⟩
      cases b with
      | true => exact q1 _ G1 H1 (Same.refl _) o1 (.bl _)
      | false => exact h2 σ G1 s1 H1 L o1 Q q1
theorem ev_notV {ta : TE} {ma : MS S D} (h1 : Ev J ta ρ ma) : Ev J (tNotV ta) ρ (bnd ma fun d => bnd (lft (asB d)) fun b => ret (.bl (!b))) := fun σ G s H L o Q q =>
  h1.run o q fun d x G1 s1 H1 e1 o1 rx q1 => by
    cases e : asB d with
    | none =>
      rw [e] at q1
      exact q1.elim
    | some b =>
      rw [e] at q1
      rw [asB_eq d b e] at rx
      exact ⟨b, rX.bl (J := J) (ρ := ρ) (σ := σ) (.inl rx), q1 _ G1 H1 (Same.refl _) o1 (.bl _)⟩
/-- a < b < c -/
theorem ev_chain {r r' : R2} {ta tb tc : TE} {f f' : D → D → Option D} {ma mb mc : MS S D} (ho : Op2 J ρ r f) (ho' : Op2 J ρ r' f') (ha : Ev J ta ρ ma) (hb : Ev J tb ρ mb) (hc : Ev J tc ρ mc) :
    Ev J (tChain r r' ta tb tc) ρ (bnd ma fun d => bnd mb fun e => bnd (lft ((f d e).bind asB)) fun k => if k = true then bnd mc fun g => lft (f' e g) else ret (.bl false)) := fun σ G s H L o Q q =>
  ha.run o q fun d x G1 s1 H1 e1 o1 rx q1 => hb.run o1 q1 fun e y G2 s2 H2 e2 o2 ry q2 => by
    cases e3 : f d e with
    | none =>
      rw [e3] at q2
      exact q2.elim
    | some z =>
      rw [e3] at q2
      refine ho σ G2 s2 H2 L x y d e z o2 (.inl (Rp.mono e2 rx)) (.inl ry) e3 _ fun v G3 H3 e4 o3 rv => ?_
      cases e5 : asB z with
      | none =>
        dsimp only [Option.bind] at q2
        rw [e5] at q2
        exact q2.elim
      | some k =>
        dsimp only [Option.bind] at q2
        rw [e5] at q2
        rw [asB_eq z k e5] at rv
        refine ⟨k, rX.bl (J := J) (ρ := ρ) (σ := σ) (.inl rv), ?_⟩
        cases k with
        | false => exact q2 _ G3 H3 e4 o3 (.bl _)
        | true =>
          have q3 : Pst J ρ σ L G2 (rP J) Q (bnd mc (fun g => lft (f' e g)) s2) := q2
          exact hc.run o3 (Pst.mono e4 q3) fun g w G4 s4 H4 e6 o4 rw' q4 => Pst.lft q4 fun z2 hz2 q5 => ho' σ G4 s4 H4 L y w e g z2 o4 (.inl ((Rp.mono e4 ry).mono e6)) (.inl rw') hz2 Q q5

/-! ### lists of values, displays -/
theorem ea_nil : EvA J tNil ρ (ret []) := EvG.pure fun σ G s H L o Q q => q [] G H (Same.refl _) o .nil
theorem ea_cons {te : TE} {tr : TA} {m : MS S D} {n : MS S (List D)} (h : Ev J te ρ m) (hr : EvA J tr ρ n) : EvA J (tCons te tr) ρ (bnd m fun d => bnd n fun ds => ret (d :: ds)) := fun σ G s H L o Q q =>
  h.run o q fun d x G1 s1 H1 e1 o1 rx q1 => hr.run o1 q1 fun ds xs G2 s2 H2 e2 o2 rs q2 => q2 (x :: xs) G2 H2 (Same.refl _) o2 (.cons (Rp.mono e2 rx) rs)
def mkL (ds : List D) : Option (List D) := if ds.length < tooLong then some ds else none
theorem mkL_some {ds es : List D} (h : mkL ds = some es) : es = ds ∧ ds.length < tooLong := by
  unfold mkL at h
  by_cases hl : ds.length < tooLong
  · rw [if_pos hl] at h
    cases h
    exact ⟨rfl, hl⟩
  · rw [if_neg hl] at h
    cases h
theorem ev_tup {ta : TA} {n : MS S (List D)} (h : EvA J ta ρ n) : Ev J (tTup ta) ρ (bnd n fun ds => lft ((mkL ds).map D.tup)) := fun σ G s H L o Q q =>
  h.run o q fun ds xs G1 s1 H1 e1 o1 rs q1 => Pst.lft q1 fun d hd q2 => by
    cases e : mkL ds with
    | none => rw [e] at hd; cases hd
    | some es =>
      rw [e] at hd
      cases hd
      obtain ⟨e', hl⟩ := mkL_some e
      subst e'
      refine ⟨long_ok (by rw [RpAll.length rs]; exact hl), fun p hp => ?_⟩
      obtain ⟨sm, o'⟩ := o1.lay (u := .tup xs) hp
      exact q2 _ _ _ sm o' (.tup upd_same (RpAll.mono sm rs))

/-! ### lists that the def makes: own for now -/
/-- a new list at p, nobody else's -/
def Nw (J : Jc S) (ρ : Env) (G : Hp) (σ : Sl) (L : Led) (s : S) (H : Hp) (p : Addr) (xs : List V) : Prop := Cells J.Z G ρ σ L ∧ Wd G ((p, .lst xs) :: (L ++ J.lay s)) H
def PstL (J : Jc S) (ρ : Env) (σ : Sl) (L : Led) (G : Hp) (Q : VK) : Rs S (List D) → Prop
  | .stuck => False
  | .ex c fs s => Out J ρ σ L G c fs s
  | .ok ds s => ∀ p xs G' H', Same G G' → Nw J ρ G' σ L s H' p xs → RpAll J.Z G' xs ds → Q (.ref p) H'
def EvL (J : Jc S) (te : TE) (ρ : Env) (m : MS S (List D)) : Prop := ∀ σ G s H L, Ok J.Z (J.lay s) ρ G σ L H → ∀ Q, PstL J ρ σ L G Q (m s) → te σ H Q
theorem PstL.mono {Q : VK} (e : Same G G') : ∀ {r : Rs S (List D)}, PstL J ρ σ L G Q r → PstL J ρ σ L G' Q r
  | .stuck, h => h
  | .ex _ _ _, h => Out.mono e h
  | .ok _ _, h => fun p xs G2 H2 a c => h p xs G2 H2 (e.trans a) c
theorem PstL.lft {Q : VK} {o : Option (List D)} {s : S} {P : Prop} (h : PstL J ρ σ L G Q ((lft o : MS S (List D)) s)) (k : ∀ a, o = some a → PstL J ρ σ L G Q (.ok a s) → P) : P := by
  cases o with
  | none => exact h.elim
  | some a => exact k a rfl h
theorem EvG.runL {R1 : Sl → Hp → β → α → Prop} {t : Sl → Hp → (β → Hp → Prop) → Prop} {Q : VK} {m : MS S α} {k : α → MS S (List D)} {s : S} (h1 : EvG J R1 t ρ m) (o : Ok J.Z (J.lay s) ρ G σ L H)
    (h : PstL J ρ σ L G Q (bnd m k s)) {P : β → Hp → Prop} (kk : ∀ a b G' s' H', Same G G' → Ok J.Z (J.lay s') ρ G' σ L H' → R1 σ G' b a → PstL J ρ σ L G' Q (k a s') → P b H') : t σ H P := by
  refine h1 σ G s H L o _ ?_
  have h' : PstL J ρ σ L G Q ((m s).go k) := h
  cases e : m s with
  | stuck =>
    rw [e] at h'
    exact h'
  | ex c fs s' =>
    rw [e] at h'
    exact h'
  | ok a s' =>
    rw [e] at h'
    exact fun b G' H' sm o' r => kk a b G' s' H' sm o' r (PstL.mono sm h')
theorem Ok.nw {p : Addr} {xs : List V} {s : S} (o : Ok J.Z (J.lay s) ρ G σ L H) (h : H p = none) : Nw J ρ G σ L s (upd H p (.lst xs)) p xs := by
  obtain ⟨c, w⟩ := o
  exact ⟨c, w.keep h⟩
theorem Nw.ok {p : Addr} {xs : List V} {s : S} (o : Nw J ρ G σ L s H p xs) : Same G (upd G p (.lst xs)) ∧ Ok J.Z (J.lay s) ρ (upd G p (.lst xs)) σ L H := by
  obtain ⟨c, w⟩ := o
  exact ⟨w.frzS, c.mono w.frzS, w.frz⟩
/-- it stays as it is from now on -/
theorem ev_new {te : TE} {m : MS S (List D)} (h : EvL J te ρ m) : Ev J te ρ (bnd m fun ds => ret (.lst ds)) := fun σ G s H L o Q q => h σ G s H L o Q (by
  have q' : Pst J ρ σ L G (rP J) Q ((m s).go fun ds => ret (.lst ds)) := q
  cases e : m s with
  | stuck =>
    rw [e] at q'
    exact q'
  | ex c fs s' =>
    rw [e] at q'
    exact q'
  | ok ds s' =>
    rw [e] at q'
    intro p xs G' H' sm n r
    obtain ⟨sm2, o2⟩ := n.ok
    exact q' _ _ _ (sm.trans sm2) o2 (.lst upd_same (r.mono sm2)))
theorem el_lst {ta : TA} {n : MS S (List D)} (h : EvA J ta ρ n) : EvL J (tLst ta) ρ (bnd n fun ds => lft (mkL ds)) := fun σ G s H L o Q q =>
  h.runL o q fun ds xs G1 s1 H1 e1 o1 rs q1 => PstL.lft q1 fun es e q2 => by
    obtain ⟨e', hl⟩ := mkL_some e
    subst e'
    exact ⟨long_ok (by rw [RpAll.length rs]; exact hl), fun p hp => q2 _ _ _ _ (Same.refl _) (o1.nw hp) rs⟩

/-! ### slices -/
def rSl (K : PySem.W.Frag) : V → Option Int → Option Int → Hp → VK → Prop := fun x lo hi H Q => (rSlL K x lo hi H Q ∨ rSlA K x lo hi H Q) ∨ rSlS x lo hi H Q
theorem sl_any {X : Cx} : SlR X (rSl X.K) := SlR.or (SlR.or sl_list sl_tupA) sl_str
theorem eo_none : EvO J tNoPart ρ (ret none) := EvG.pure fun σ G s H L o Q q => q none G H (Same.refl _) o rfl
theorem eo_some {te : TE} {m : MS S D} (h : Ev J te ρ m) : EvO J (tPart te) ρ (bnd m fun d => lft (oInt? d)) := fun σ G s H L o Q q =>
  h.run o q fun d x G1 s1 H1 e1 o1 rx q1 => Pst.lft q1 fun b hb q2 => by
    cases d with
    | int i =>
      cases hb
      exact ⟨i, rX.int (J := J) (ρ := ρ) (σ := σ) (.inl rx), q2 _ G1 H1 (Same.refl _) o1 rfl⟩
    | _ => cases hb
theorem cut_rp {Z : Wo} {xs : List V} {ds : List D} {lo hi : Option Int} (r : RpAll Z G xs ds) : RpAll Z G (cutV xs lo hi) (cut ds lo hi) := by
  unfold cutV cut
  rw [r.length]
  exact (r.drop _).take _
theorem cut_all {α : Type} {xs : List α} {lo hi : Option Int} (h : HT.sIx xs.length 0 lo = 0 ∧ HT.sIx xs.length xs.length hi = xs.length) : cut xs lo hi = xs := by
  unfold cut
  rw [h.1, h.2, List.drop_zero, Nat.sub_zero, List.take_length]
theorem ev_sl {K : PySem.W.Frag} {te : TE} {tl th : TO} {m : MS S D} {ml mh : MS S (Option Int)} (h : EvX J te ρ m) (hl : EvO J tl ρ ml) (hh : EvO J th ρ mh) : Ev J (tSl (rSl K) te tl th) ρ (bnd m fun d => bnd ml fun lo => bnd mh fun hi => lft (oSl d lo hi)) := fun σ G s H L o Q q =>
  h.run o q fun d x G1 s1 H1 e1 o1 rx q1 => hl.run o1 q1 fun lo l' G2 s2 H2 e2 o2 rl q2 => hh.run o2 q2 fun hi h' G3 s3 H3 e3 o3 rh q3 => Pst.lft q3 fun z hz q4 => by
    cases rl
    cases rh
    have rx3 : rX J ρ σ G3 x d := (rX.mono e3 (rX.mono e2 rx))
    cases d with
    | lst ds =>
      cases hz
      obtain ⟨a, xs, h1, h2, r⟩ := rX.lst o3 rx3
      refine .inl (.inl ⟨a, xs, h1, sq_l h2, fun p hp => ?_⟩)
      obtain ⟨sm, o'⟩ := o3.lay (u := .lst (cutV xs lo hi)) hp
      exact q4 _ _ _ sm o' (.lst upd_same ((cut_rp r).mono sm))
    | lnt ds =>
      cases hz
      obtain ⟨a, u, xs, h1, h2, r⟩ := rX.lnt o3 rx3
      refine .inl (.inl ⟨a, xs, h1, sq_f h2, fun p hp => ?_⟩)
      obtain ⟨sm, o'⟩ := o3.lay (u := .lst (cutV xs lo hi)) hp
      exact q4 _ _ _ sm o' (.lst upd_same ((cut_rp r).mono sm))
    | tup ds =>
      cases hz
      have rp : Rp J.Z G3 x (.tup ds) := by
        rcases rx3 with h | ⟨_, _, _, _, h3⟩
        · exact h
        · cases h3
      obtain ⟨a, xs, rfl, h1, r⟩ := rp_ref rp
      refine .inl (.inr ⟨a, xs, rfl, sq_t (o3.same _ _ h1), fun w => ?_, fun _ p hp => ?_⟩)
      · rw [r.length] at w
        rw [cut_all w] at q4
        exact q4 _ G3 H3 (Same.refl _) o3 rp
      · obtain ⟨sm, o'⟩ := o3.lay (u := .tup (cutV xs lo hi)) hp
        exact q4 _ _ _ sm o' (.tup upd_same ((cut_rp r).mono sm))
    | str w =>
      unfold oSl at hz
      dsimp only at hz
      split at hz
      · rename_i hlen
        cases hz
        exact .inr ⟨w, rX.str rx3, long_ok hlen, q4 _ G3 H3 (Same.refl _) o3 (.str _)⟩
      · cases hz
    | _ => cases hz

/-! ### built-ins by name -/
/-- c reads the one value -/
def Op1 (J : Jc S) (ρ : Env) (r : List V → Hp → VK → Prop) (f : D → Option D) : Prop := ∀ σ G s H L x d z, Ok J.Z (J.lay s) ρ G σ L H → rX J ρ σ G x d → f d = some z →
  ∀ Q : VK, (∀ v G' H', Same G G' → Ok J.Z (J.lay s) ρ G' σ L H' → Rp J.Z G' v z → Q v H') → r [x] H Q
theorem ev_b1 {r : List V → Hp → VK → Prop} {te : TE} {f : D → Option D} {m : MS S D} (ho : Op1 J ρ r f) (h : EvX J te ρ m) : Ev J (tCB r (tCons te tNil)) ρ (bnd m fun d => lft (f d)) := fun σ G s H L o Q q =>
  h.run o q fun d x G1 s1 H1 e1 o1 rx q1 => Pst.lft q1 fun z hz q2 => ho σ G1 s1 H1 L x d z o1 rx hz Q q2
def Op2c (J : Jc S) (ρ : Env) (r : List V → Hp → VK → Prop) (f : D → D → Option D) : Prop := Op2 J ρ (fun x y H Q => r [x, y] H Q) f
theorem ev_b2 {r : List V → Hp → VK → Prop} {ta tb : TE} {f : D → D → Option D} {ma mb : MS S D} (ho : Op2c J ρ r f) (ha : EvX J ta ρ ma) (hb : EvX J tb ρ mb) : Ev J (tCB r (tCons ta (tCons tb tNil))) ρ (bnd ma fun d => bnd mb fun e => lft (f d e)) := fun σ G s H L o Q q =>
  ha.run o q fun d x G1 s1 H1 e1 o1 rx h1 => hb.run o1 h1 fun e y G2 s2 H2 e2 o2 ry h2 => Pst.lft h2 fun z hz q => ho σ G2 s2 H2 L x y d e z o2 (rX.mono e2 rx) ry hz Q q
def rLn (K : PySem.W.Frag) : List V → Hp → VK → Prop := fun xs H Q => (∃ x n, xs = [x] ∧ LenV K x H n ∧ Q (.int n) H) ∨ ∃ a kvs, xs = [V.ref a] ∧ H a = some (.dK kvs) ∧ Q (.int kvs.length) H
theorem call_ln {X : Cx} : CallR X (.builtin "len") (rLn X.K) := CallR.either call_len call_lenD
theorem o1_len {K : PySem.W.Frag} : Op1 J ρ (rLn K) oLen := fun σ G s H L x d z o rx hz Q q => by
  cases d with
  | lst ds =>
    cases hz
    obtain ⟨a, xs, h1, h2, r⟩ := rX.lst o rx
    refine .inl ⟨x, xs.length, rfl, ?_, ?_⟩
    · rw [h1]
      exact .inl ⟨xs, sq_l h2, rfl⟩
    · rw [r.length]
      exact q _ G H (Same.refl _) o (.int _)
  | lnt ds =>
    cases hz
    obtain ⟨a, u, xs, h1, h2, r⟩ := rX.lnt o rx
    refine .inl ⟨x, xs.length, rfl, ?_, ?_⟩
    · rw [h1]
      exact .inl ⟨xs, sq_f h2, rfl⟩
    · rw [r.length]
      exact q _ G H (Same.refl _) o (.int _)
  | tup ds =>
    cases hz
    obtain ⟨a, xs, h1, h2, r⟩ := rX.tup o rx
    refine .inl ⟨x, xs.length, rfl, ?_, ?_⟩
    · rw [h1]
      exact .inr ⟨xs, sq_t h2, rfl⟩
    · rw [r.length]
      exact q _ G H (Same.refl _) o (.int _)
  | str w =>
    unfold oLen at hz
    dsimp only at hz
    split at hz
    · rename_i hl
      cases hz
      exact .inl ⟨x, w.length, rfl, by rw [rX.str rx]; exact ⟨long_ok hl, rfl⟩, q _ G H (Same.refl _) o (.int _)⟩
    · cases hz
  | dct kvs =>
    cases hz
    obtain ⟨a, h1, h2⟩ := rX.dct o rx
    exact .inr ⟨a, kvs, by rw [h1], h2, q _ G H (Same.refl _) o (.int _)⟩
  | _ => cases hz
theorem o1_abs : Op1 J ρ (fun xs H Q => ∃ i, xs = [.int i] ∧ Q (.int (if i < 0 then -i else i)) H) oAbs := fun σ G s H L x d z o rx hz Q q => by
  cases d with
  | int i =>
    cases hz
    exact ⟨i, by rw [rX.int rx], q _ G H (Same.refl _) o (.int _)⟩
  | _ => cases hz
theorem o1_int : Op1 J ρ (fun xs H Q => (∃ i, xs = [.int i] ∧ Q (.int i) H) ∨ ∃ k, xs = [.bl k] ∧ Q (.int (if k then 1 else 0)) H) oIntOf := fun σ G s H L x d z o rx hz Q q => by
  cases d with
  | int i =>
    cases hz
    exact .inl ⟨i, by rw [rX.int rx], q _ G H (Same.refl _) o (.int _)⟩
  | bl k =>
    cases hz
    exact .inr ⟨k, by rw [rX.bl rx], q _ G H (Same.refl _) o (.int _)⟩
  | _ => cases hz
theorem o2_max : Op2c J ρ (fun xs H Q => ∃ i j, xs = [.int i, .int j] ∧ Q (.int (if j > i then j else i)) H) oMax2 := fun σ G s H L x y d e z o rx ry hz Q q => by
  cases d with
  | int i =>
    cases e with
    | int j =>
      cases hz
      exact ⟨i, j, by rw [rX.int rx, rX.int ry], q _ G H (Same.refl _) o (.int _)⟩
    | _ => cases hz
  | _ => cases hz
theorem o2_min : Op2c J ρ (fun xs H Q => ∃ i j, xs = [.int i, .int j] ∧ Q (.int (if j < i then j else i)) H) oMin2 := fun σ G s H L x y d e z o rx ry hz Q q => by
  cases d with
  | int i =>
    cases e with
    | int j =>
      cases hz
      exact ⟨i, j, by rw [rX.int rx, rX.int ry], q _ G H (Same.refl _) o (.int _)⟩
    | _ => cases hz
  | _ => cases hz
def rTp (K : PySem.W.Frag) : List V → Hp → VK → Prop := fun xs H Q => ∃ p ys, xs = [.ref p] ∧ ((SqL K H p ys ∧ ∀ l, H l = none → Q (.ref l) (upd H l (.tup ys))) ∨ (SqT K H p ys ∧ Q (.ref p) H))
theorem o1_tuple {K : PySem.W.Frag} : Op1 J ρ (rTp K) oTuple := fun σ G s H L x d z o rx hz Q q => by
  cases d with
  | lst ds =>
    cases hz
    obtain ⟨a, xs, h1, h2, r⟩ := rX.lst o rx
    refine ⟨a, xs, by rw [h1], .inl ⟨sq_l h2, fun l hl => ?_⟩⟩
    obtain ⟨sm, o'⟩ := o.lay (u := .tup xs) hl
    exact q _ _ _ sm o' (.tup upd_same (r.mono sm))
  | lnt ds =>
    cases hz
    obtain ⟨a, u, xs, h1, h2, r⟩ := rX.lnt o rx
    refine ⟨a, xs, by rw [h1], .inl ⟨sq_f h2, fun l hl => ?_⟩⟩
    obtain ⟨sm, o'⟩ := o.lay (u := .tup xs) hl
    exact q _ _ _ sm o' (.tup upd_same (r.mono sm))
  | tup ds =>
    cases hz
    have rp : Rp J.Z G x (.tup ds) := by
      rcases rx with h | ⟨_, _, _, _, h3⟩
      · exact h
      · cases h3
    obtain ⟨a, xs, rfl, h1, r⟩ := rp_ref rp
    exact ⟨a, xs, rfl, .inr ⟨sq_t (o.same _ _ h1), q _ G H (Same.refl _) o rp⟩⟩
  | _ => cases hz
def rLs (K : PySem.W.Frag) : List V → Hp → VK → Prop := fun xs H Q => ∃ p ys, xs = [.ref p] ∧ (SqL K H p ys ∨ SqT K H p ys) ∧ ∀ l, H l = none → Q (.ref l) (upd H l (.lst ys))
/-- list(x) -/
theorem el_list {K : PySem.W.Frag} {te : TE} {m : MS S D} (h : EvX J te ρ m) : EvL J (tCB (rLs K) (tCons te tNil)) ρ (bnd m fun d => lft (items d)) := fun σ G s H L o Q q =>
  h.runL o q fun d x G1 s1 H1 e1 o1 rx q1 => PstL.lft q1 fun ds e q2 => by
    obtain ⟨p, xs, h1, r, h2⟩ := rX.items o1 rx e
    exact ⟨p, xs, by rw [h1], h2.imp (fun h => .inl h.2) (fun h => sq_t h.2), fun l hl => q2 _ _ _ _ (Same.refl _) (o1.nw hl) r⟩

/-! ### isinstance -/
def tyN : D → String
  | .non => "NoneType" | .bl _ => "bool" | .int _ => "int" | .str _ => "str" | .lst _ => "list" | .tup _ => "tuple" | .dct _ => "dict" | .obj _ _ => "" | .lnt _ => "list"
inductive Ty6 where
  | int | bool | str | list | tuple | dict
def Ty6.nm : Ty6 → String
  | .int => "int" | .bool => "bool" | .str => "str" | .list => "list" | .tuple => "tuple" | .dict => "dict"
def isA : Ty6 → D → Option Bool
  | _, .obj _ _ => none
  | .int, .int _ => some true
  | .int, .bl _ => some true
  | .bool, .bl _ => some true
  | .str, .str _ => some true
  | .list, .lst _ => some true
  | .list, .lnt _ => some true
  | .tuple, .tup _ => some true
  | .dict, .dct _ => some true
  | _, _ => some false
def isAs : List Ty6 → D → Option Bool
  | [], .obj _ _ => none
  | [], _ => some false
  | T :: Ts, d => match isA T d with
    | some true => some true
    | some false => isAs Ts d
    | none => none
def oIsA (T : Ty6) (d : D) : Option D := (isA T d).map D.bl
def oIsAs (Ts : List Ty6) (d : D) : Option D := (isAs Ts d).map D.bl
theorem ty_of {K : PySem.W.Frag} {x : V} {d : D} {T : Ty6} {b : Bool} (o : Ok J.Z B ρ G σ L H) (rx : rX J ρ σ G x d) (h : isA T d = some b) : TyX K H x (.type (tyN d)) := by
  cases d with
  | non => rw [rX.non rx]; exact .base .non
  | bl c => rw [rX.bl rx]; exact .base (.bl _)
  | int c => rw [rX.int rx]; exact .base (.int _)
  | str c => rw [rX.str rx]; exact .base (.str _)
  | lst ds =>
    obtain ⟨a, xs, rfl, h1, _⟩ := rX.lst o rx
    exact .base (.lst h1)
  | tup ds =>
    obtain ⟨a, xs, rfl, h1, _⟩ := rX.tup o rx
    exact .base (.tup h1)
  | dct kvs =>
    obtain ⟨a, rfl, h1⟩ := rX.dct o rx
    exact .base (.dK h1)
  | obj c fs => cases T <;> cases h
  | lnt ds =>
    obtain ⟨a, u, xs, rfl, h1, _⟩ := rX.lnt o rx
    exact .base (.frz h1)
theorem kit_is {K : PySem.W.Frag} {d : D} {T : Ty6} {b : Bool} (h : isA T d = some b) : PySem.W.kitOne K (.type (tyN d)) (.type T.nm) = some b := by
  cases d <;> cases T <;> cases h <;> rfl
theorem kit_all {K : PySem.W.Frag} {d : D} : ∀ {Ts : List Ty6} {b : Bool}, isAs Ts d = some b → PySem.W.kitAny K (.type (tyN d)) (Ts.map fun T => .type T.nm) = some b
  | [], b, h => by
    cases d <;> cases h <;> rfl
  | T :: Ts, b, h => by
    unfold isAs at h
    cases e : isA T d with
    | none =>
      rw [e] at h
      cases h
    | some c =>
      have k := kit_is (K := K) e
      rw [e] at h
      show (match PySem.W.kitOne K (.type (tyN d)) (.type T.nm) with
        | some true => some true
        | some false => PySem.W.kitAny K (.type (tyN d)) (Ts.map fun T => .type T.nm)
        | none => none) = some b
      rw [k]
      cases c with
      | true => exact h
      | false => exact kit_all h
theorem ev_isa {K : PySem.W.Frag} {te : TE} {m : MS S D} (T : Ty6) (h : EvX J te ρ m) : Ev J (tCB (rIsi K) (tCons te (tCons (tC (.ty T.nm)) tNil))) ρ (bnd m fun d => lft (oIsA T d)) := fun σ G s H L o Q q =>
  h.run o q fun d x G1 s1 H1 e1 o1 rx q1 => Pst.lft q1 fun z hz q2 => by
    unfold oIsA at hz
    cases e : isA T d with
    | none => rw [e] at hz; cases hz
    | some b =>
      rw [e] at hz
      cases hz
      exact ⟨x, _, _, _, b, rfl, .ty _, ty_of o1 rx e, kit_is e, q2 _ G1 H1 (Same.refl _) o1 (.bl _)⟩
def tTys : List Ty6 → TA
  | [] => tNil
  | T :: Ts => tCons (tC (.ty T.nm)) (tTys Ts)
theorem tTys_run : ∀ {Ts : List Ty6} {Q : List V → Hp → Prop}, Q (Ts.map fun T => .ty T.nm) H → tTys Ts σ H Q
  | [], _, h => h
  | T :: Ts, Q, h => tTys_run (Ts := Ts) (Q := fun xs H2 => Q (.ty T.nm :: xs) H2) h
theorem tys_cls : ∀ Ts : List Ty6, Paired ClsV (Ts.map fun T => V.ty T.nm) (Ts.map fun T => Value.type T.nm)
  | [] => .nil
  | _ :: Ts => .cons (.ty _) (tys_cls Ts)
theorem isAs_one {d : D} : ∀ {Ts : List Ty6} {b : Bool}, isAs Ts d = some b → isA .int d ≠ none
  | [], _, h => by
    cases d <;> first | (cases h; done) | (intro q; cases q)
  | T :: Ts, b, h => by
    cases d with
    | obj c fs => cases T <;> cases h
    | _ => intro q; cases q
theorem ev_isas {K : PySem.W.Frag} {te : TE} {m : MS S D} (Ts : List Ty6) (h : EvX J te ρ m) (hl : Ts.length < 10 := by decide) : Ev J (tCB (rIsiT K) (tCons te (tCons (tTup (tTys Ts)) tNil))) ρ (bnd m fun d => lft (oIsAs Ts d)) := fun σ G s H L o Q q =>
  h.run o q fun d x G1 s1 H1 e1 o1 rx q1 => Pst.lft q1 fun z hz q2 => by
    unfold oIsAs at hz
    cases e : isAs Ts d with
    | none => rw [e] at hz; cases hz
    | some b =>
      rw [e] at hz
      cases hz
      show tTys Ts σ H1 _
      refine tTys_run ?_
      refine ⟨long_ok (by rw [List.length_map]; exact Nat.lt_trans hl (by decide)), fun p hp => ?_⟩
      obtain ⟨sm, o'⟩ := o1.lay (u := .tup (Ts.map fun T => V.ty T.nm)) hp
      obtain ⟨c, hc⟩ := Option.ne_none_iff_exists'.mp (isAs_one e)
      exact ⟨x, p, _, _, _, b, rfl, upd_same, tys_cls Ts, ty_of o' (rX.mono sm rx) hc, kit_all e, q2 _ _ _ sm o' (.bl _)⟩
end
end Dm

set_option Elab.async false
set_option linter.all false
set_option maxRecDepth 100000
namespace Dm
open PySem PySem.Spec PyProof.Rows L2

/-! ### statements -/
/-- how a block ends -/
inductive Fin where
  | nx (ρ : Env) | rt (d : D) | bk (ρ : Env) | ct (ρ : Env) | rl (ds : List D)
section
variable {S : Type} (J : Jc S)
def Fo (G : Hp) (E : Ends) (s : S) : Fin → Prop
  | .nx ρ => ∀ σ G' H L, Same G G' → Ok J.Z (J.lay s) ρ G' σ L H → E.nx σ H
  | .rt d => ∀ v G' H, Same G G' → Wd G' (J.lay s) H → Rp J.Z G' v d → E.rt v H
  | .bk ρ => ∀ σ G' H L, Same G G' → Ok J.Z (J.lay s) ρ G' σ L H → E.bk σ H
  | .ct ρ => ∀ σ G' H L, Same G G' → Ok J.Z (J.lay s) ρ G' σ L H → E.ct σ H
  | .rl ds => ∀ p xs G' H, Same G G' → Wd G' ((p, .lst xs) :: J.lay s) H → RpAll J.Z G' xs ds → E.rt (.ref p) H
def Xo (esc : Env) (G : Hp) (c : Nat) (fs : List D) (s : S) : Prop := ∀ σ dx vs G' H L, Same G G' → Ok J.Z (J.lay s) esc G' σ L H → G' dx = some (.xd ((J.Z.fn c).zip vs)) → (J.Z.fn c).length = vs.length → RpAll J.Z G' vs fs → J.X (.ref (J.Z.cl c)) (some dx) σ H
def Pss {β : Type} (esc : Env) (G : Hp) (E : Ends) (fin : β → Fin) : Rs S β → Prop
  | .stuck => False
  | .ex c fs s => Xo J esc G c fs s
  | .ok b s => Fo J G E s (fin b)
/-- the statement t does what m says; T: what is asked of the ways out -/
def Sv {β : Type} (T : Ends → Prop) (esc : Env) (t : TS) (ρ : Env) (m : MS S β) (fin : β → Fin) : Prop := ∀ σ G s H L, Ok J.Z (J.lay s) ρ G σ L H → ∀ E, T E → Pss J esc G E fin (m s) → t E σ H
end
/-- anywhere; at a def's end (where falling off is to hand back None) -/
def Ta (_ : Ends) : Prop := True
def Tl (E : Ends) : Prop := ∀ σ H, E.rt .non H → E.nx σ H
section
variable {S : Type} {J : Jc S} {α β γ δ τ : Type} {ρ esc : Env} {σ : Sl} {G G' H : Hp} {L : Led} {T : Ends → Prop} {E : Ends}
theorem Fo.mono {s : S} (e : Same G G') : ∀ {f : Fin}, Fo J G E s f → Fo J G' E s f
  | .nx _, h => fun σ G2 H L a b => h σ G2 H L (e.trans a) b
  | .rt _, h => fun v G2 H a b c => h v G2 H (e.trans a) b c
  | .bk _, h => fun σ G2 H L a b => h σ G2 H L (e.trans a) b
  | .ct _, h => fun σ G2 H L a b => h σ G2 H L (e.trans a) b
  | .rl _, h => fun p xs G2 H a b c => h p xs G2 H (e.trans a) b c
theorem Xo.mono {s : S} {c : Nat} {fs : List D} (e : Same G G') (h : Xo J esc G c fs s) : Xo J esc G' c fs s := fun σ dx vs G2 H L a b => h σ dx vs G2 H L (e.trans a) b
theorem Pss.mono {fin : β → Fin} (e : Same G G') : ∀ {r : Rs S β}, Pss J esc G E fin r → Pss J esc G' E fin r
  | .stuck, h => h
  | .ex _ _ _, h => Xo.mono e h
  | .ok _ _, h => Fo.mono e h
theorem Pss.lft {fin : β → Fin} {o : Option β} {s : S} {P : Prop} (h : Pss J esc G E fin ((lft o : MS S β) s)) (k : ∀ a, o = some a → Fo J G E s (fin a) → P) : P := by
  cases o with
  | none => exact h.elim
  | some a => exact k a rfl h
theorem Xo.out {s : S} {c : Nat} {fs : List D} (w : Wk ρ esc) (h : Xo J esc G c fs s) : Out J ρ σ L G c fs s := fun dx vs G' H' sm o e1 e2 r => by
  obtain ⟨L', o'⟩ := o.weak w
  exact h σ dx vs G' H' L' sm o' e1 e2 r
theorem EvG.runS {R1 : Sl → Hp → γ → α → Prop} {t : Sl → Hp → (γ → Hp → Prop) → Prop} {m : MS S α} {k : α → MS S β} {s : S} {fin : β → Fin} (h1 : EvG J R1 t ρ m) (o : Ok J.Z (J.lay s) ρ G σ L H) (w : Wk ρ esc)
    (h : Pss J esc G E fin (bnd m k s)) {P : γ → Hp → Prop} (kk : ∀ a b G' s' H', Same G G' → Ok J.Z (J.lay s') ρ G' σ L H' → R1 σ G' b a → Pss J esc G' E fin (k a s') → P b H') : t σ H P := by
  refine h1 σ G s H L o _ ?_
  have h' : Pss J esc G E fin ((m s).go k) := h
  cases e : m s with
  | stuck =>
    rw [e] at h'
    exact h'
  | ex c fs s' =>
    rw [e] at h'
    exact Xo.out w h'
  | ok a s' =>
    rw [e] at h'
    exact fun b G' H' sm o' r => kk a b G' s' H' sm o' r (Pss.mono sm h')
theorem EvL.runS {t : TE} {m : MS S (List D)} {k : List D → MS S β} {s : S} {fin : β → Fin} (h1 : EvL J t ρ m) (o : Ok J.Z (J.lay s) ρ G σ L H) (w : Wk ρ esc)
    (h : Pss J esc G E fin (bnd m k s)) {P : V → Hp → Prop} (kk : ∀ ds p xs G' s' H', Same G G' → Nw J ρ G' σ L s' H' p xs → RpAll J.Z G' xs ds → Pss J esc G' E fin (k ds s') → P (.ref p) H') : t σ H P := by
  refine h1 σ G s H L o _ ?_
  have h' : Pss J esc G E fin ((m s).go k) := h
  cases e : m s with
  | stuck =>
    rw [e] at h'
    exact h'
  | ex c fs s' =>
    rw [e] at h'
    exact Xo.out w h'
  | ok a s' =>
    rw [e] at h'
    exact fun p xs G' H' sm o' r => kk a p xs G' s' H' sm o' r (Pss.mono sm h')
theorem bnd_id (m : MS S α) : bnd m ret = m := by
  funext s
  show (m s).go ret = m s
  cases m s <;> rfl

/-! one statement -/
theorem sv_asg {te : TE} {i : Nat} {m : MS S D} (h : Ev J te ρ m) (w : Wk ρ esc) : Sv J Ta esc (tAsg te (gName i)) ρ m (fun d => .nx (ρ.set i (.P d))) := fun σ G s H L o E _ q => by
  refine h.runS (k := ret) o w (by rw [bnd_id]; exact q) fun d v G1 s1 H1 e1 o1 r q1 => ?_
  obtain ⟨L', o2⟩ := o1.set (i := i) r
  exact q1 _ G1 H1 L' (Same.refl _) o2
/-- x = [..]: the list is the def's own -/
theorem Cells.setO {Z : Wo} {p : Addr} {xs : List V} {ds : List D} (r : RpAll Z G xs ds) : ∀ {e : Env} {σ : Sl} {L : Led} (i : Nat), Cells Z G e σ L → i < e.length → ∃ L' L1 L2, List.Sublist L' L ∧ L' = L1 ++ L2 ∧ Cells Z G (e.set i (.O ds)) (σ.set i (some (.ref p))) (L1 ++ (p, .lst xs) :: L2)
  | _, _, _, _, .nil, h => absurd h (Nat.not_lt_zero _)
  | _, _, _, 0, .U c, _ => ⟨_, [], _, List.Sublist.refl _, rfl, .O r c⟩
  | _, _, _, 0, .P q c, _ => ⟨_, [], _, List.Sublist.refl _, rfl, .O r c⟩
  | _, _, _, 0, .O q c, _ => ⟨_, [], _, List.sublist_cons_self _ _, rfl, .O r c⟩
  | _, _, _, 0, .A f c, _ => ⟨_, [], _, List.Sublist.refl _, rfl, .O r c⟩
  | _, _, _, 0, .Q q c, _ => ⟨_, [], _, (List.sublist_append_right _ _).cons _, rfl, .O r c⟩
  | _, _, _, i + 1, .Q (p := p0) (xs := xs0) (Li := Li) q c, h => by
    obtain ⟨L', L1, L2, s, e, c'⟩ := c.setO (p := p) r i (Nat.lt_of_succ_lt_succ h)
    refine ⟨_, (p0, .lst xs0) :: (Li ++ L1), L2, ((List.Sublist.refl _).append s).cons₂ _, by rw [e, List.cons_append, List.append_assoc], ?_⟩
    rw [List.cons_append, List.append_assoc]
    exact .Q q c'
  | _, _, _, i + 1, .U c, h => by
    obtain ⟨L', L1, L2, s, e, c'⟩ := c.setO (p := p) r i (Nat.lt_of_succ_lt_succ h)
    exact ⟨L', L1, L2, s, e, .U c'⟩
  | _, _, _, i + 1, .P q c, h => by
    obtain ⟨L', L1, L2, s, e, c'⟩ := c.setO (p := p) r i (Nat.lt_of_succ_lt_succ h)
    exact ⟨L', L1, L2, s, e, .P q c'⟩
  | _, _, _, i + 1, .O (p := p0) (xs := xs0) q c, h => by
    obtain ⟨L', L1, L2, s, e, c'⟩ := c.setO (p := p) r i (Nat.lt_of_succ_lt_succ h)
    exact ⟨_, (p0, .lst xs0) :: L1, L2, s.cons₂ _, by rw [e]; rfl, .O q c'⟩
  | _, _, _, i + 1, .A f c, h => by
    obtain ⟨L', L1, L2, s, e, c'⟩ := c.setO (p := p) r i (Nat.lt_of_succ_lt_succ h)
    exact ⟨L', L1, L2, s, e, .A f c'⟩
theorem Nw.set {s : S} {p : Addr} {xs : List V} {ds : List D} {i : Nat} (n : Nw J ρ G σ L s H p xs) (r : RpAll J.Z G xs ds) (hi : i < ρ.length) : ∃ L', Ok J.Z (J.lay s) (ρ.set i (.O ds)) G (σ.set i (some (.ref p))) L' H := by
  obtain ⟨c, w⟩ := n
  obtain ⟨L', L1, L2, sb, e, c'⟩ := c.setO (p := p) r i hi
  refine ⟨_, c', ?_⟩
  have w1 := w.sub ((sb.append (List.Sublist.refl (J.lay s))).cons₂ (p, HO.lst xs))
  refine w1.perm ?_
  rw [e, List.append_assoc, List.append_assoc, List.cons_append]
  exact List.perm_middle
theorem sv_asgL {te : TE} {i : Nat} {m : MS S (List D)} (h : EvL J te ρ m) (w : Wk ρ esc) (hi : i < ρ.length := by decide) : Sv J Ta esc (tAsg te (gName i)) ρ m (fun ds => .nx (ρ.set i (.O ds))) := fun σ G s H L o E _ q => by
  refine h.runS (k := ret) o w (by rw [bnd_id]; exact q) fun ds p xs G1 s1 H1 e1 n r q1 => ?_
  obtain ⟨L', o2⟩ := n.set r hi
  exact q1 _ G1 H1 L' (Same.refl _) o2
theorem sv_ret {te : TE} {m : MS S D} (h : Ev J te ρ m) (w : Wk ρ esc) : Sv J T esc (tRet te) ρ m Fin.rt := fun σ G s H L o E _ q =>
  h.runS (k := ret) (fin := Fin.rt) o w (by rw [bnd_id]; exact q) fun d v G1 s1 H1 e1 o1 r q1 => q1 v G1 H1 (Same.refl _) o1.wd r
theorem sv_retL {te : TE} {m : MS S (List D)} (h : EvL J te ρ m) (w : Wk ρ esc) : Sv J T esc (tRet te) ρ m Fin.rl := fun σ G s H L o E _ q => by
  refine h σ G s H L o _ ?_
  cases e : m s with
  | stuck =>
    rw [e] at q
    exact q
  | ex c fs s2 =>
    rw [e] at q
    exact Xo.out w q
  | ok ds s2 =>
    rw [e] at q
    exact fun p xs G' H' sm nw r => q p xs G' H' sm (nw.2.sub (List.Sublist.cons_cons _ (List.sublist_append_right _ _))) r
theorem sv_retN : Sv J T esc tRetN ρ (ret .non) Fin.rt := fun σ G s H L o E _ q => q .non G H (Same.refl _) o.wd .non
theorem sv_drop {te : TE} {m : MS S D} (h : Ev J te ρ m) (w : Wk ρ esc) : Sv J Ta esc (tDrop te) ρ m (fun _ => .nx ρ) := fun σ G s H L o E _ q =>
  h.runS (k := ret) (fin := fun _ => Fin.nx ρ) o w (by rw [bnd_id]; exact q) fun d v G1 s1 H1 e1 o1 r q1 => q1 σ G1 H1 L (Same.refl _) o1
/-- nothing; the end of a def -/
theorem sv_next : Sv J T esc tNext ρ (ret ()) (fun _ => .nx ρ) := fun σ G s H L o E _ q => q σ G H L (Same.refl _) o
theorem sv_end : Sv J Tl esc tNext ρ (ret .non) Fin.rt := fun σ G s H L o E ht q => ht σ H (q .non G H (Same.refl _) o.wd .non)
theorem sv_break : Sv J T esc tBreak ρ (ret ()) (fun _ => .bk ρ) := fun σ G s H L o E _ q => q σ G H L (Same.refl _) o
theorem sv_cont : Sv J T esc tCont ρ (ret ()) (fun _ => .ct ρ) := fun σ G s H L o E _ q => q σ G H L (Same.refl _) o
/-! less is asked -/
def FinW : Fin → Fin → Prop
  | .nx ρ, .nx ρ' => Wk ρ ρ'
  | .rt d, .rt d' => d = d'
  | .bk ρ, .bk ρ' => Wk ρ ρ'
  | .ct ρ, .ct ρ' => Wk ρ ρ'
  | .rl d, .rl d' => d = d'
  | _, _ => False
theorem Fo.weak {s : S} {f f' : Fin} (w : FinW f f') (h : Fo J G E s f') : Fo J G E s f := by
  cases f <;> cases f' <;> first | exact w.elim | skip
  · exact fun σ G2 H L a o => let ⟨L', o'⟩ := o.weak w; h σ G2 H L' a o'
  · cases w
    exact h
  · exact fun σ G2 H L a o => let ⟨L', o'⟩ := o.weak w; h σ G2 H L' a o'
  · exact fun σ G2 H L a o => let ⟨L', o'⟩ := o.weak w; h σ G2 H L' a o'
  · cases w
    exact h
/-- the ends in other words -/
theorem sv_to {t : TS} {m : MS S α} {fin : α → Fin} {fin' : β → Fin} (g : α → β) (h : Sv J T esc t ρ m fin) (w : ∀ a, FinW (fin a) (fin' (g a))) : Sv J T esc t ρ (bnd m fun a => ret (g a)) fin' := fun σ G s H L o E ht q => h σ G s H L o E ht (by
  have q' : Pss J esc G E fin' ((m s).go fun a => ret (g a)) := q
  cases e : m s with
  | stuck =>
    rw [e] at q'
    exact q'
  | ex c fs s' =>
    rw [e] at q'
    exact q'
  | ok a s' =>
    rw [e] at q'
    exact Fo.weak (w a) q')
theorem sv_wk {t : TS} {m : MS S α} {fin : α → Fin} {ρ' : Env} (w : Wk ρ ρ') (h : Sv J T esc t ρ' m fin) : Sv J T esc t ρ m fin := fun σ G s H L o E ht q => by
  obtain ⟨L', o'⟩ := o.weak w
  exact h σ G s H L' o' E ht q
/-- an own list stays as it is from now on -/
theorem Cells.frz {Z : Wo} {i : Nat} {ds : List D} {p : Addr} {xs : List V} : ∀ {e : Env} {σ : Sl} {L : Led} {i : Nat}, Cells Z G e σ L → e[i]? = some (.O ds) → ∃ (p : Addr) (xs : List V) (L1 L2 : Led), L = L1 ++ (p, .lst xs) :: L2 ∧ RpAll Z G xs ds ∧
      ∀ G' d, Same G G' → Rp Z G' (.ref p) d → Cells Z G' (e.set i (.P d)) σ (L1 ++ L2)
  | _, _, _, _, .nil, h => by simp at h
  | _, _, _, 0, .U c, h => by simp at h
  | _, _, _, 0, .P r c, h => by simp at h
  | _, _, _, 0, .O r c, h => by
    simp at h
    subst h
    exact ⟨_, _, [], _, rfl, r, fun G' d s q => .P q (c.mono s)⟩
  | _, _, _, 0, .A f c, h => by simp at h
  | _, _, _, i + 1, .U c, h => by
    obtain ⟨p, xs, L1, L2, a2, a3, a4⟩ := c.frz (i := i) (p := 0) (xs := []) (by simpa using h)
    exact ⟨p, xs, L1, L2, a2, a3, fun G' d s q => .U (a4 G' d s q)⟩
  | _, _, _, i + 1, .P r c, h => by
    obtain ⟨p, xs, L1, L2, a2, a3, a4⟩ := c.frz (i := i) (p := 0) (xs := []) (by simpa using h)
    exact ⟨p, xs, L1, L2, a2, a3, fun G' d s q => .P (r.mono s) (a4 G' d s q)⟩
  | _, _, _, i + 1, .O (p := p0) (xs := xs0) r c, h => by
    obtain ⟨p, xs, L1, L2, a2, a3, a4⟩ := c.frz (i := i) (p := 0) (xs := []) (by simpa using h)
    exact ⟨p, xs, (p0, .lst xs0) :: L1, L2, by rw [a2]; rfl, a3, fun G' d s q => .O (r.mono s) (a4 G' d s q)⟩
  | _, _, _, i + 1, .A f c, h => by
    obtain ⟨p, xs, L1, L2, a2, a3, a4⟩ := c.frz (i := i) (p := 0) (xs := []) (by simpa using h)
    exact ⟨p, xs, L1, L2, a2, a3, fun G' d s q => .A (fun G2 s2 => f G2 (s.trans s2)) (a4 G' d s q)⟩
  | _, _, _, 0, .Q f c, h => by simp at h
  | _, _, _, i + 1, .Q (p := p0) (xs := xs0) (Li := Li) f c, h => by
    obtain ⟨p, xs, L1, L2, a2, a3, a4⟩ := c.frz (i := i) (p := 0) (xs := []) (by simpa using h)
    refine ⟨p, xs, (p0, .lst xs0) :: (Li ++ L1), L2, by rw [a2, List.cons_append, List.append_assoc], a3, fun G' d s q => ?_⟩
    rw [List.cons_append, List.append_assoc]
    exact .Q (f.mono s) (a4 G' d s q)
theorem Ok.frz {B : Led} {i : Nat} {ds : List D} (o : Ok J.Z B ρ G σ L H) (h : ρ[i]? = some (.O ds)) : ∃ G' L', Same G G' ∧ Ok J.Z B (ρ.set i (.P (.lst ds))) G' σ L' H := by
  obtain ⟨c, w⟩ := o
  obtain ⟨p, xs, L1, L2, e, r, k⟩ := c.frz (i := i) (p := 0) (xs := []) h
  subst e
  have w' : Wd G ((p, .lst xs) :: (L1 ++ L2 ++ B)) H := w.perm (by
    rw [List.append_assoc, List.append_assoc, List.cons_append]
    exact List.perm_middle.symm)
  refine ⟨_, _, w'.frzS, k _ _ w'.frzS (.lst upd_same (r.mono w'.frzS)), ?_⟩
  exact w'.frz
theorem sv_frz {t : TS} {m : MS S α} {fin : α → Fin} {i : Nat} {ds : List D} (hi : ρ[i]? = some (.O ds)) (h : Sv J T esc t (ρ.set i (.P (.lst ds))) m fin) : Sv J T esc t ρ m fin := fun σ G s H L o E ht q => by
  obtain ⟨G', L', sm, o'⟩ := o.frz hi
  exact h σ G' s H L' o' E ht (Pss.mono sm q)

/-! two statements -/
theorem Pss.bind {m : MS S α} {k : α → MS S β} {fin1 : α → Fin} {fin : β → Fin} {E1 : Ends} {s : S} (h : Pss J esc G E fin (bnd m k s)) (kk : ∀ a s', Pss J esc G E fin (k a s') → Fo J G E1 s' (fin1 a)) : Pss J esc G E1 fin1 (m s) := by
  have h' : Pss J esc G E fin ((m s).go k) := h
  cases e : m s with
  | stuck =>
    rw [e] at h'
    exact h'
  | ex c fs s' =>
    rw [e] at h'
    exact h'
  | ok a s' =>
    rw [e] at h'
    exact kk a s' h'
theorem sv_seq {t u : TS} {m : MS S α} {k : α → MS S β} {e : α → Env} {fin : β → Fin} (h1 : Sv J Ta esc t ρ m (fun a => .nx (e a))) (h2 : ∀ a, Sv J T esc u (e a) (k a) fin) : Sv J T esc (tSeq t u) ρ (bnd m k) fin := fun σ G s H L o E ht q =>
  h1 σ G s H L o { E with nx := u E } trivial (q.bind (E1 := { E with nx := u E }) fun a s' q1 σ1 G1 H1 L1 sm o1 => h2 a σ1 G1 s' H1 L1 o1 E ht (Pss.mono sm q1))
/-- what a statement may do beside: hand back; leave the loop; go on with it -/
inductive Fl (α β : Type) where
  | nx (a : α) | rt (d : D) | bk (b : β) | ct (b : β)
def Fl.fin (e : α → Env) (eb : β → Env) : Fl α β → Fin
  | .nx a => .nx (e a)
  | .rt d => .rt d
  | .bk b => .bk (eb b)
  | .ct b => .ct (eb b)
/-- a block that may also hand back -/
inductive Fr (α : Type) where
  | nx (a : α) | rt (d : D)
def Fr.fin (e : α → Env) : Fr α → Fin
  | .nx a => .nx (e a)
  | .rt d => .rt d
/-- the same, what follows hands back -/
theorem sv_seqR {t u : TS} {m : MS S (Fr α)} {k : α → MS S D} {e : α → Env} (h1 : Sv J Ta esc t ρ m (Fr.fin e)) (h2 : ∀ a, Sv J T esc u (e a) (k a) Fin.rt) : Sv J T esc (tSeq t u) ρ (bnd m fun r => match r with | .nx a => k a | .rt d => ret d) Fin.rt := fun σ G s H L o E ht q =>
  h1 σ G s H L o { E with nx := u E } trivial (q.bind (E1 := { E with nx := u E }) fun a s' q1 => by
    cases a with
    | nx a => exact fun σ1 G1 H1 L1 sm o1 => h2 a σ1 G1 s' H1 L1 o1 E ht (Pss.mono sm q1)
    | rt d => exact q1)
theorem sv_seqF {t u : TS} {m : MS S (Fl α γ)} {k : α → MS S (Fl β γ)} {e : α → Env} {e' : β → Env} {eb : γ → Env} (h1 : Sv J Ta esc t ρ m (Fl.fin e eb)) (h2 : ∀ a, Sv J T esc u (e a) (k a) (Fl.fin e' eb)) :
    Sv J T esc (tSeq t u) ρ (bnd m fun r => match r with | .nx a => k a | .rt d => ret (.rt d) | .bk b => ret (.bk b) | .ct b => ret (.ct b)) (Fl.fin e' eb) := fun σ G s H L o E ht q =>
  h1 σ G s H L o { E with nx := u E } trivial (q.bind (E1 := { E with nx := u E }) fun a s' q1 => by
    cases a with
    | nx a => exact fun σ1 G1 H1 L1 sm o1 => h2 a σ1 G1 s' H1 L1 o1 E ht (Pss.mono sm q1)
    | rt d => exact q1
    | bk d => exact q1
    | ct d => exact q1)
theorem sv_if {tt : TT} {tu tw : TS} {mt : MS S Bool} {m1 m2 : MS S β} {fin : β → Fin} (h : EvT J tt ρ mt) (w : Wk ρ esc) (h1 : Sv J T esc tu ρ m1 fin) (h2 : Sv J T esc tw ρ m2 fin) : Sv J T esc (tIfS tt tu tw) ρ (bnd mt fun b => if b = true then m1 else m2) fin := fun σ G s H L o E ht q =>
  h.runS o w q fun b c G1 s1 H1 e1 o1 hc q1 => by
    cases hc
    cases b with
    | true => exact h1 σ G1 s1 H1 L o1 E ht q1
    | false => exact h2 σ G1 s1 H1 L o1 E ht q1
/-- if: hand back; the rest is the else -/
theorem sv_ifR {tt : TT} {tu tw tz : TS} {mt : MS S Bool} {m1 m2 : MS S D} (h : EvT J tt ρ mt) (w : Wk ρ esc) (h1 : Sv J Ta esc tu ρ m1 Fin.rt) (h2 : Sv J T esc (tSeq tw tz) ρ m2 Fin.rt) : Sv J T esc (tSeq (tIfS tt tu tw) tz) ρ (bnd mt fun b => if b = true then m1 else m2) Fin.rt := fun σ G s H L o E ht q =>
  h.runS o w q fun b c G1 s1 H1 e1 o1 hc q1 => by
    cases hc
    cases b with
    | true => exact h1 σ G1 s1 H1 L o1 { E with nx := tz E } trivial (by
        have q2 : Pss J esc G1 E Fin.rt (m1 s1) := q1
        cases e : m1 s1 with
        | stuck => rw [e] at q2; exact q2
        | ex c fs s' => rw [e] at q2; exact q2
        | ok a s' => rw [e] at q2; exact q2)
    | false => exact h2 σ G1 s1 H1 L o1 E ht q1
/-- tNext ahead is nothing -/
theorem sv_skip {tz : TS} {m : MS S β} {fin : β → Fin} (h : Sv J T esc tz ρ m fin) : Sv J T esc (tSeq tNext tz) ρ m fin := h
end
end Dm

set_option Elab.async false
set_option linter.all false
set_option maxRecDepth 100000
namespace Dm
open PySem PySem.Spec PyProof.Rows L2
section
variable {S : Type} {J : Jc S} {α β γ δ τ : Type} {ρ esc : Env} {σ : Sl} {G G' H : Hp} {L : Led} {T : Ends → Prop} {E : Ends}
/-! ### a block that never goes on -/
inductive Fx (γ : Type) where
  | rt (d : D) | bk (b : γ) | ct (b : γ)
def Fx.fin (eb : γ → Env) : Fx γ → Fin
  | .rt d => .rt d
  | .bk b => .bk (eb b)
  | .ct b => .ct (eb b)
def Fx.up : Fx γ → Fl α γ
  | .rt d => .rt d
  | .bk b => .bk b
  | .ct b => .ct b
theorem sv_ifF {tt : TT} {tu tw tz : TS} {mt : MS S Bool} {m1 : MS S (Fx γ)} {m2 : MS S (Fl α γ)} {e : α → Env} {eb : γ → Env} (h : EvT J tt ρ mt) (w : Wk ρ esc) (h1 : Sv J Ta esc tu ρ m1 (Fx.fin eb)) (h2 : Sv J T esc (tSeq tw tz) ρ m2 (Fl.fin e eb)) :
    Sv J T esc (tSeq (tIfS tt tu tw) tz) ρ (bnd mt fun b => if b = true then bnd m1 (fun r => ret r.up) else m2) (Fl.fin e eb) := fun σ G s H L o E ht q =>
  h.runS o w q fun b c G1 s1 H1 e1 o1 hc q1 => by
    cases hc
    cases b with
    | true =>
      refine h1 σ G1 s1 H1 L o1 { E with nx := tz E } trivial (Pss.bind (k := fun r => ret r.up) (m := m1) q1 fun a s' q2 => ?_)
      cases a <;> exact q2
    | false => exact h2 σ G1 s1 H1 L o1 E ht q1

/-! ### targets -/
def noO : Option Cell → Bool
  | some (.O _) => false
  | some (.Q _) => false
  | _ => true
/-- the target g takes data un-told apart; ex: the slots behind it; js: the slots that it sets -/
structure Tg (J : Jc S) (g : TG) (un : D → Option τ) (ex : τ → Env → Env) (js : List Nat) : Prop where
  go : ∀ d t ρ x σ G s H L, un d = some t → Ok J.Z (J.lay s) ρ G σ L H → Rp J.Z G x d → ∀ Q : Sl → Hp → Prop, (∀ σ' L', Ok J.Z (J.lay s) (ex t ρ) G σ' L' H → σ'.length = σ.length → (∀ i, i ∉ js → σ'[i]? = σ[i]?) → ((∀ j ∈ js, noO ρ[j]? = true) → L' = L) → Q σ' H) → g x σ H Q
theorem Cells.setP {Z : Wo} {v : V} {d : D} (r : Rp Z G v d) : ∀ {e : Env} {σ : Sl} {L : Led} (i : Nat), noO e[i]? = true → Cells Z G e σ L → Cells Z G (e.set i (.P d)) (σ.set i (some v)) L
  | _, _, _, _, _, .nil => .nil
  | _, _, _, 0, _, .U c => .P r c
  | _, _, _, 0, _, .P q c => .P r c
  | _, _, _, 0, h, .O q c => absurd h Bool.false_ne_true
  | _, _, _, 0, h, .Q q c => absurd h Bool.false_ne_true
  | _, _, _, 0, _, .A f c => .P r c
  | _, _, _, i + 1, h, .U c => .U (c.setP r i (by simpa using h))
  | _, _, _, i + 1, h, .P q c => .P q (c.setP r i (by simpa using h))
  | _, _, _, i + 1, h, .O q c => .O q (c.setP r i (by simpa using h))
  | _, _, _, i + 1, h, .A f c => .A f (c.setP r i (by simpa using h))
  | _, _, _, i + 1, h, .Q f c => .Q f (c.setP r i (by simpa using h))
theorem Ok.setP {B : Led} {i : Nat} {v : V} {d : D} (o : Ok J.Z B ρ G σ L H) (r : Rp J.Z G v d) : ∃ L', Ok J.Z B (ρ.set i (.P d)) G (σ.set i (some v)) L' H ∧ (noO ρ[i]? = true → L' = L) := by
  by_cases h : noO ρ[i]? = true
  · exact ⟨L, ⟨o.1.setP r i h, o.2⟩, fun _ => rfl⟩
  · obtain ⟨L', o'⟩ := o.set (i := i) r
    exact ⟨L', o', fun h' => absurd h' h⟩
def un1 (d : D) : Option D := some d
theorem tg_name (i : Nat) : Tg J (gName i) un1 (fun d ρ => ρ.set i (.P d)) [i] where
  go := fun d t ρ x σ G s H L hu o r Q q => by
    cases hu
    obtain ⟨L', o', hL⟩ := o.setP (i := i) r
    refine q _ L' o' (by simp) (fun j hj => ?_) fun h => hL (h i (by simp))
    rw [List.getElem?_set_ne]
    exact fun e => hj (by simp [e])
def un2 : D → Option (D × D)
  | .tup [a, b] => some (a, b)
  | _ => none
theorem set_O {ρ : Env} {i j : Nat} {d : D} (h : noO ρ[j]? = true) : noO (ρ.set i (.P d))[j]? = true := by
  by_cases hij : i = j
  · subst hij
    by_cases hl : i < ρ.length
    · rw [List.getElem?_set_self hl]
      rfl
    · rw [List.getElem?_eq_none (by simpa using hl)]
      rfl
  · rw [List.getElem?_set_ne hij]
    exact h
theorem un2_some {d : D} {t : D × D} (h : un2 d = some t) : d = .tup [t.1, t.2] := by
  unfold un2 at h
  split at h
  · cases h
    rfl
  · cases h
theorem tg_pair {K : PySem.W.Frag} (i j : Nat) : Tg J (gTup K 2 (gCons (gName i) (gCons (gName j) gNil))) un2 (fun t ρ => (ρ.set i (.P t.1)).set j (.P t.2)) [i, j] where
  go := fun d t ρ x σ G s H L hu o r Q q => by
    have e := un2_some hu
    subst e
    obtain ⟨a, xs, rfl, h1, r1⟩ := rp_ref r
    cases r1 with
    | cons ra r2 =>
      cases r2 with
      | cons rb r3 =>
        cases r3
        obtain ⟨L1, o1, h2⟩ := o.setP (i := i) ra
        obtain ⟨L2, o2, h3⟩ := o1.setP (i := j) rb
        refine ⟨a, _, rfl, sq_t (o.same _ _ h1), rfl, _, _, rfl, _, _, rfl, rfl, ?_⟩
        refine q _ L2 o2 (by simp) (fun k hk => ?_) fun h => ?_
        · rw [List.getElem?_set_ne (fun e => hk (by simp [e])), List.getElem?_set_ne (fun e => hk (by simp [e]))]
        · rw [h3 (set_O (h j (by simp))), h2 (h i (by simp))]
def un3 : D → Option (D × D × D)
  | .tup [a, b, c] => some (a, b, c)
  | _ => none
theorem un3_some {d : D} {t : D × D × D} (h : un3 d = some t) : d = .tup [t.1, t.2.1, t.2.2] := by
  unfold un3 at h
  split at h
  · cases h
    rfl
  · cases h
theorem tg_three {K : PySem.W.Frag} (i j k : Nat) : Tg J (gTup K 3 (gCons (gName i) (gCons (gName j) (gCons (gName k) gNil)))) un3 (fun t ρ => ((ρ.set i (.P t.1)).set j (.P t.2.1)).set k (.P t.2.2)) [i, j, k] where
  go := fun d t ρ x σ G s H L hu o r Q q => by
    have e := un3_some hu
    subst e
    obtain ⟨a, xs, rfl, h1, r1⟩ := rp_ref r
    cases r1 with
    | cons ra r2 =>
      cases r2 with
      | cons rb r3 =>
        cases r3 with
        | cons rc r4 =>
          cases r4
          obtain ⟨L1, o1, h2⟩ := o.setP (i := i) ra
          obtain ⟨L2, o2, h3⟩ := o1.setP (i := j) rb
          obtain ⟨L3, o3, h4⟩ := o2.setP (i := k) rc
          refine ⟨a, _, rfl, sq_t (o.same _ _ h1), rfl, _, _, rfl, _, _, rfl, _, _, rfl, rfl, ?_⟩
          refine q _ L3 o3 (by simp) (fun l hk => ?_) fun h => ?_
          · rw [List.getElem?_set_ne (fun e => hk (by simp [e])), List.getElem?_set_ne (fun e => hk (by simp [e])), List.getElem?_set_ne (fun e => hk (by simp [e]))]
          · rw [h4 (set_O (set_O (h k (by simp)))), h3 (set_O (h j (by simp))), h2 (h i (by simp))]
/-- a, b = e -/
theorem sv_asgT {te : TE} {g : TG} {un : D → Option τ} {ex : τ → Env → Env} {js : List Nat} {m : MS S D} (h : Ev J te ρ m) (w : Wk ρ esc) (hg : Tg J g un ex js) : Sv J Ta esc (tAsg te g) ρ (bnd m fun d => lft (un d)) (fun t => .nx (ex t ρ)) := fun σ G s H L o E _ q =>
  h.runS o w q fun d v G1 s1 H1 e1 o1 r q1 => Pss.lft q1 fun t ht q2 => hg.go d t ρ v σ G1 s1 H1 L ht o1 r _ fun σ' L' o2 _ _ _ => q2 σ' G1 H1 L' (Same.refl _) o2

/-! ### walks -/
def YD (Z : Wo) (G0 : Hp) (ds : List D) (i : Nat) (H : Hp) (x : V) (H' : Hp) : Prop := ∃ d, ds[i]? = some d ∧ ((H' = H ∧ Rp Z G0 x d) ∨ ∃ q u v du dv, x = .ref q ∧ H q = none ∧ H' = upd H q (.tup [u, v]) ∧ d = .tup [du, dv] ∧ Rp Z G0 u du ∧ Rp Z G0 v dv)
def PstI (J : Jc S) (ρ : Env) (σ : Sl) (L : Led) (G : Hp) (R : It → Hp → Prop) : Rs S (List D) → Prop
  | .stuck => False
  | .ex c fs s => Out J ρ σ L G c fs s
  | .ok ds s => ∀ I G' H, Same G G' → Ok J.Z (J.lay s) ρ G' σ L H → Walk I ds.length (fun H => Same G' H) (YD J.Z G' ds) → R I H
/-- what is walked gives the data that m says, one by one -/
def EvI (J : Jc S) (wi : TI) (ρ : Env) (m : MS S (List D)) : Prop := ∀ σ G s H L, Ok J.Z (J.lay s) ρ G σ L H → ∀ R, PstI J ρ σ L G R (m s) → wi σ H R
theorem PstI.mono {R : It → Hp → Prop} (e : Same G G') : ∀ {r : Rs S (List D)}, PstI J ρ σ L G R r → PstI J ρ σ L G' R r
  | .stuck, h => h
  | .ex _ _ _, h => Out.mono e h
  | .ok _ _, h => fun I G2 H2 a c => h I G2 H2 (e.trans a) c
theorem EvG.runI {R1 : Sl → Hp → γ → α → Prop} {t : Sl → Hp → (γ → Hp → Prop) → Prop} {m : MS S α} {k : α → MS S (List D)} {s : S} {R : It → Hp → Prop} (h1 : EvG J R1 t ρ m) (o : Ok J.Z (J.lay s) ρ G σ L H)
    (h : PstI J ρ σ L G R (bnd m k s)) {P : γ → Hp → Prop} (kk : ∀ a b G' s' H', Same G G' → Ok J.Z (J.lay s') ρ G' σ L H' → R1 σ G' b a → PstI J ρ σ L G' R (k a s') → P b H') : t σ H P := by
  refine h1 σ G s H L o _ ?_
  have h' : PstI J ρ σ L G R ((m s).go k) := h
  cases e : m s with
  | stuck =>
    rw [e] at h'
    exact h'
  | ex c fs s' =>
    rw [e] at h'
    exact h'
  | ok a s' =>
    rw [e] at h'
    exact fun b G' H' sm o' r => kk a b G' s' H' sm o' r (PstI.mono sm h')
theorem PstI.lft {R : It → Hp → Prop} {o : Option (List D)} {s : S} {P : Prop} (h : PstI J ρ σ L G R ((lft o : MS S (List D)) s)) (k : ∀ a, o = some a → PstI J ρ σ L G R (.ok a s) → P) : P := by
  cases o with
  | none => exact h.elim
  | some a => exact k a rfl h
theorem RpAll.at {Z : Wo} {xs : List V} {ds : List D} {i : Nat} {x : V} (r : RpAll Z G xs ds) (h : xs[i]? = some x) : ∃ d, ds[i]? = some d ∧ Rp Z G x d := r.getV h
theorem wd_list {Z : Wo} {K : PySem.W.Frag} {a : Addr} {xs : List V} {ds : List D} (h : Rd G a (.lst xs)) (r : RpAll Z G xs ds) : Walk (Itl K a) ds.length (fun H => Same G H) (YD Z G ds) := by
  rw [← r.length]
  refine walk_list.mono (fun H s => .inl (h.imp (fun h => s _ _ h) fun ⟨o, h⟩ => ⟨o, s _ _ h⟩)) fun i H x H' hi s y => ?_
  obtain ⟨d, hd, rd⟩ := r.at y.2
  exact ⟨d, hd, .inl ⟨y.1, rd⟩⟩
theorem wd_tup {Z : Wo} {K : PySem.W.Frag} {a : Addr} {xs : List V} {ds : List D} (h : G a = some (.tup xs)) (r : RpAll Z G xs ds) : Walk (Itt K a) ds.length (fun H => Same G H) (YD Z G ds) := by
  rw [← r.length]
  refine walk_tup.mono (fun H s => sq_t (s _ _ h)) fun i H x H' hi s y => ?_
  obtain ⟨d, hd, rd⟩ := r.at y.2
  exact ⟨d, hd, .inl ⟨y.1, rd⟩⟩
/-- for x in e: a list or a tuple -/
def iSq (K : PySem.W.Frag) (tl : TE) : TI := fun σ H R => tl σ H fun x H1 => ∃ a, x = .ref a ∧ (((∃ xs, SqL K H1 a xs) ∧ R (Itl K a) H1) ∨ ((∃ xs, SqT K H1 a xs) ∧ R (Itt K a) H1))
theorem pi_sq {X : Cx} {tg l : Expr} {tl : TE} (hl : PE X l tl) : PI X tg l (iSq X.K tl) := by
  refine ⟨fun pins s σ H R I h => thn (hl.run pins s σ H _ I h) fun v s1 ⟨x, H1, I1, r1, a, e, q⟩ => ?_⟩
  subst e
  cases r1
  rcases q with ⟨⟨xs, hq⟩, q⟩ | ⟨⟨xs, hq⟩, q⟩
  · obtain ⟨its, rv, p, hz⟩ := I1.list hq
    exact wpAny_pyIter_list p.isList (pi_one (tk := s1.toks) I1 _ (turn_list a _) ⟨_, Heap.get?_push_size _ rfl, rfl, rfl⟩ q)
  · obtain ⟨its, rv, p, hz⟩ := I1.tuple hq
    exact wpAny_pyIter_tuple (show s1.heap.IsTuple a its.toArray from p) (pi_one (tk := s1.toks) I1 _ (turn_tuple a _) ⟨_, Heap.get?_push_size _ rfl, rfl, rfl⟩ q)
theorem Rp.items {Z : Wo} {v : V} {d : D} {ds : List D} (h : Rp Z G v d) (e : items d = some ds) : ∃ p xs, v = .ref p ∧ RpAll Z G xs ds ∧ (Rd G p (.lst xs) ∨ G p = some (.tup xs)) := by
  cases h with
  | lst ha r =>
    cases e
    exact ⟨_, _, rfl, r, .inl (.inl ha)⟩
  | lnt ha r =>
    cases e
    exact ⟨_, _, rfl, r, .inl (.inr ⟨_, ha⟩)⟩
  | tup ha r =>
    cases e
    exact ⟨_, _, rfl, r, .inr ha⟩
  | _ => cases e
theorem ei_sq {K : PySem.W.Frag} {tl : TE} {m : MS S D} (h : Ev J tl ρ m) : EvI J (iSq K tl) ρ (bnd m fun d => lft (items d)) := fun σ G s H L o R q =>
  h.runI o q fun d x G1 s1 H1 e1 o1 r q1 => PstI.lft q1 fun ds e q2 => by
    obtain ⟨p, xs, h1, r2, h2⟩ := Rp.items r e
    refine ⟨p, h1, ?_⟩
    rcases h2 with h2 | h2
    · exact .inl ⟨⟨xs, .inl (h2.imp (fun h => o1.same _ _ h) fun ⟨o, h⟩ => ⟨o, o1.same _ _ h⟩)⟩, q2 _ G1 H1 (Same.refl _) o1 (wd_list h2 r2)⟩
    · exact .inr ⟨⟨xs, sq_t (o1.same _ _ h2)⟩, q2 _ G1 H1 (Same.refl _) o1 (wd_tup h2 r2)⟩
def rgD (lo : Int) (n : Nat) : List D := (List.range n).map fun (i : Nat) => D.int (lo + (i : Int))
theorem rgD_len (lo : Int) (n : Nat) : (rgD lo n).length = n := by
  unfold rgD
  simp
theorem rgD_at (lo : Int) (n : Nat) {i : Nat} (h : i < n) : (rgD lo n)[i]? = some (.int (lo + (i : Int))) := by
  unfold rgD
  simp [h]
def rg1 : List D → Option (List D)
  | [.int j] => if j.natAbs < 2305843009213693952 then some (rgD 0 j.toNat) else none
  | _ => none
def rg2 : List D → Option (List D)
  | [.int i, .int j] => if i.natAbs < 2305843009213693952 ∧ j.natAbs < 2305843009213693952 then some (rgD i (j - i).toNat) else none
  | _ => none
theorem wd_range {Z : Wo} {lo : Int} {n : Nat} : Walk (Itr lo n) (rgD lo n).length (fun H => Same G H) (YD Z G (rgD lo n)) := by
  rw [rgD_len]
  refine walk_range.mono (fun H s => trivial) fun i H x H' hi s y => ?_
  refine ⟨_, rgD_at lo n hi, .inl ⟨y.1, ?_⟩⟩
  rw [y.2]
  exact .int _
theorem ei_r1 {ta : TA} {m : MS S (List D)} (h : EvA J ta ρ m) : EvI J (iRng1 ta) ρ (bnd m fun ds => lft (rg1 ds)) := fun σ G s H L o R q =>
  h.runI o q fun ds xs G1 s1 H1 e1 o1 r q1 => PstI.lft q1 fun es e q2 => by
    unfold rg1 at e
    split at e
    · rename_i j
      split at e
      · rename_i hj
        cases e
        cases r with
        | cons r1 r2 =>
          cases r1
          cases r2
          exact ⟨j, rfl, by omega, by omega, q2 _ G1 H1 (Same.refl _) o1 wd_range⟩
      · cases e
    · cases e
theorem ei_r2 {ta : TA} {m : MS S (List D)} (h : EvA J ta ρ m) : EvI J (iRng2 ta) ρ (bnd m fun ds => lft (rg2 ds)) := fun σ G s H L o R q =>
  h.runI o q fun ds xs G1 s1 H1 e1 o1 r q1 => PstI.lft q1 fun es e q2 => by
    unfold rg2 at e
    split at e
    · rename_i i j
      split at e
      · rename_i hj
        cases e
        cases r with
        | cons r1 r2 =>
          cases r1
          cases r2 with
          | cons r3 r4 =>
            cases r3
            cases r4
            exact ⟨i, j, rfl, ⟨by omega, by omega, by omega, by omega⟩, q2 _ G1 H1 (Same.refl _) o1 wd_range⟩
      · cases e
    · cases e

/-! ### for -/
def forN (un : D → Option τ) (f : τ → α → MS S α) : List D → α → MS S α
  | [], a => ret a
  | d :: ds, a => bnd (lft (un d)) fun t => bnd (f t a) fun b => forN un f ds b
def forF (un : D → Option τ) (f : τ → α → MS S (Fl α α)) : List D → α → MS S (Fr α)
  | [], a => ret (.nx a)
  | d :: ds, a => bnd (lft (un d)) fun t => bnd (f t a) fun r => match r with
    | .nx b => forF un f ds b
    | .ct b => forF un f ds b
    | .bk b => ret (.nx b)
    | .rt e => ret (.rt e)
theorem YD.ok {Z : Wo} {B : Led} {G0 : Hp} {ds : List D} {i : Nat} {x : V} {H' : Hp} (s : Same G0 G) (o : Ok Z B ρ G σ L H) (y : YD Z G0 ds i H x H') : ∃ d G', ds[i]? = some d ∧ Same G G' ∧ Ok Z B ρ G' σ L H' ∧ Rp Z G' x d := by
  obtain ⟨d, hd, y⟩ := y
  rcases y with ⟨rfl, r⟩ | ⟨q, u, v, du, dv, rfl, hq, rfl, rfl, r1, r2⟩
  · exact ⟨d, G, hd, Same.refl _, o, r.mono s⟩
  · obtain ⟨sm, o'⟩ := o.lay (u := .tup [u, v]) hq
    exact ⟨_, _, hd, sm, o', .tup upd_same (.cons (r1.mono (s.trans sm)) (.cons (r2.mono (s.trans sm)) .nil))⟩
theorem sv_forN {wi : TI} {g : TG} {tb : TS} {un : D → Option τ} {ex : τ → Env → Env} {js : List Nat} {m : MS S (List D)} {f : τ → α → MS S α} (e : α → Env) (a0 : α) (h : EvI J wi (e a0) m) (w : Wk (e a0) esc) (hg : Tg J g un ex js)
    (hb : ∀ t a, Sv J Ta esc tb (ex t (e a)) (f t a) (fun b => .nx (e b))) : Sv J Ta esc (tFor wi g tb) (e a0) (bnd m fun ds => forN un f ds a0) (fun a => .nx (e a)) := fun σ G s H L o E _ q => by
  refine h σ G s H L o _ ?_
  have q' : Pss J esc G E (fun a => .nx (e a)) ((m s).go fun ds => forN un f ds a0) := q
  cases em : m s with
  | stuck =>
    rw [em] at q'
    exact q'
  | ex c fs s' =>
    rw [em] at q'
    exact Xo.out w q'
  | ok ds s' =>
    rw [em] at q'
    intro I G1 H1 sm o1 wk
    refine for_it wk (fun i σ H => ∃ a G2 s2 L2, Same G1 G2 ∧ Ok J.Z (J.lay s2) (e a) G2 σ L2 H ∧ Pss J esc G2 E (fun a => .nx (e a)) (forN un f (ds.drop i) a s2)) ⟨a0, G1, s', L, Same.refl _, o1, Pss.mono sm q'⟩ (fun i σ H _ ⟨a, G2, s2, L2, sm2, o2, _⟩ => sm2.trans o2.same) (fun i x σ2 H2 H3 hi p y => ?_) fun σ2 H2 p => ?_
    · obtain ⟨a, G2, s2, L2, sm2, o2, q2⟩ := p
      obtain ⟨d, G3, hd, sm3, o3, r⟩ := y.ok sm2 o2
      have hl : i < ds.length := hi
      have ed : ds.drop i = d :: ds.drop (i + 1) := by
        rw [List.drop_eq_getElem_cons hl]
        rw [List.getElem?_eq_getElem hl] at hd
        cases hd
        rfl
      rw [ed] at q2
      cases ht : un d with
      | none =>
        unfold forN at q2
        rw [ht] at q2
        exact q2.elim
      | some t =>
        unfold forN at q2
        rw [ht] at q2
        refine hg.go d t (e a) x σ2 G3 s2 H3 L2 ht o3 r _ fun σ4 L4 o4 _ _ _ => ?_
        refine hb t a σ4 G3 s2 H3 L4 o4 _ trivial (Pss.bind (E := E) (fin := fun a => .nx (e a)) (k := fun b => forN un f (ds.drop (i + 1)) b) (Pss.mono sm3 q2) fun b s5 q5 => ?_)
        exact fun σ6 G6 H6 L6 sm6 o6 => ⟨b, G6, s5, L6, (sm2.trans sm3).trans sm6, o6, Pss.mono sm6 q5⟩
    · obtain ⟨a, G2, s2, L2, sm2, o2, q2⟩ := p
      rw [List.drop_length] at q2
      exact q2 σ2 G2 H2 L2 (Same.refl _) o2
theorem sv_forF {wi : TI} {g : TG} {tb : TS} {un : D → Option τ} {ex : τ → Env → Env} {js : List Nat} {m : MS S (List D)} {f : τ → α → MS S (Fl α α)} (e : α → Env) (a0 : α) (h : EvI J wi (e a0) m) (w : Wk (e a0) esc) (hg : Tg J g un ex js)
    (hb : ∀ t a, Sv J Ta esc tb (ex t (e a)) (f t a) (Fl.fin e e)) : Sv J Ta esc (tFor wi g tb) (e a0) (bnd m fun ds => forF un f ds a0) (Fr.fin e) := fun σ G s H L o E _ q => by
  refine h σ G s H L o _ ?_
  have q' : Pss J esc G E (Fr.fin e) ((m s).go fun ds => forF un f ds a0) := q
  cases em : m s with
  | stuck =>
    rw [em] at q'
    exact q'
  | ex c fs s' =>
    rw [em] at q'
    exact Xo.out w q'
  | ok ds s' =>
    rw [em] at q'
    intro I G1 H1 sm o1 wk
    refine for_it wk (fun i σ H => ∃ a G2 s2 L2, Same G1 G2 ∧ Ok J.Z (J.lay s2) (e a) G2 σ L2 H ∧ Pss J esc G2 E (Fr.fin e) (forF un f (ds.drop i) a s2)) ⟨a0, G1, s', L, Same.refl _, o1, Pss.mono sm q'⟩ (fun i σ H _ ⟨a, G2, s2, L2, sm2, o2, _⟩ => sm2.trans o2.same) (fun i x σ2 H2 H3 hi p y => ?_) fun σ2 H2 p => ?_
    · obtain ⟨a, G2, s2, L2, sm2, o2, q2⟩ := p
      obtain ⟨d, G3, hd, sm3, o3, r⟩ := y.ok sm2 o2
      have hl : i < ds.length := hi
      have ed : ds.drop i = d :: ds.drop (i + 1) := by
        rw [List.drop_eq_getElem_cons hl]
        rw [List.getElem?_eq_getElem hl] at hd
        cases hd
        rfl
      rw [ed] at q2
      cases ht : un d with
      | none =>
        unfold forF at q2
        rw [ht] at q2
        exact q2.elim
      | some t =>
        unfold forF at q2
        rw [ht] at q2
        refine hg.go d t (e a) x σ2 G3 s2 H3 L2 ht o3 r _ fun σ4 L4 o4 _ _ _ => ?_
        refine hb t a σ4 G3 s2 H3 L4 o4 _ trivial (Pss.bind (E := E) (fin := Fr.fin e) (m := f t a) (Pss.mono sm3 q2) fun b s5 q5 => ?_)
        cases b with
        | nx b => exact fun σ6 G6 H6 L6 sm6 o6 => ⟨b, G6, s5, L6, (sm2.trans sm3).trans sm6, o6, Pss.mono sm6 q5⟩
        | ct b => exact fun σ6 G6 H6 L6 sm6 o6 => ⟨b, G6, s5, L6, (sm2.trans sm3).trans sm6, o6, Pss.mono sm6 q5⟩
        | bk b => exact q5
        | rt b => exact q5
    · obtain ⟨a, G2, s2, L2, sm2, o2, q2⟩ := p
      rw [List.drop_length] at q2
      exact q2 σ2 G2 H2 L2 (Same.refl _) o2
/-! ### while: n turns at most -/
def whlN (c : α → MS S Bool) (f : α → MS S α) : Nat → α → MS S α
  | 0, _ => stk
  | n + 1, a => bnd (c a) fun b => if b = true then bnd (f a) fun a' => whlN c f n a' else ret a
def whlF (c : α → MS S Bool) (f : α → MS S (Fl α α)) : Nat → α → MS S (Fr α)
  | 0, _ => stk
  | n + 1, a => bnd (c a) fun b => if b = true then bnd (f a) fun r => (match r with
    | .nx b => whlF c f n b
    | .ct b => whlF c f n b
    | .bk b => ret (.nx b)
    | .rt e => ret (.rt e)) else ret (.nx a)
theorem sv_whlN {tc : TT} {tb : TS} {c : α → MS S Bool} {f : α → MS S α} (e : α → Env) (a0 : α) (n : Nat) (h : ∀ a, EvT J tc (e a) (c a)) (w : ∀ a, Wk (e a) esc)
    (hb : ∀ a, Sv J Ta esc tb (e a) (f a) (fun b => .nx (e b))) : Sv J Ta esc (tWhile tc tb) (e a0) (whlN c f n a0) (fun a => .nx (e a)) := fun σ G s H L o E _ q => by
  refine ⟨fun k σ H => ∃ a G2 s2 L2, Ok J.Z (J.lay s2) (e a) G2 σ L2 H ∧ Pss J esc G2 E (fun a => .nx (e a)) (whlN c f k a s2), ⟨n, a0, G, s, L, o, q⟩, fun k σ H ⟨a, G2, s2, L2, o2, q2⟩ => ?_⟩
  cases k with
  | zero => exact q2.elim
  | succ k =>
    refine (h a).runS o2 (w a) q2 fun b b' G3 s3 H3 sm3 o3 hb' q3 => ?_
    cases hb'
    cases b with
    | true =>
      refine ⟨fun σ H => ∃ a G2 s2 L2, Ok J.Z (J.lay s2) (e a) G2 σ L2 H ∧ Pss J esc G2 E (fun a => .nx (e a)) (whlN c f k a s2), fun σ' H' p => ⟨k, Nat.lt_succ_self k, p⟩, ?_⟩
      refine hb a σ G3 s3 H3 L2 o3 _ trivial (Pss.bind (E := E) (fin := fun a => .nx (e a)) (k := fun b => whlN c f k b) q3 fun b s5 q5 => ?_)
      exact fun σ6 G6 H6 L6 sm6 o6 => ⟨b, G6, s5, L6, o6, Pss.mono sm6 q5⟩
    | false => exact q3 σ G3 H3 L2 (Same.refl _) o3
theorem sv_whlF {tc : TT} {tb : TS} {c : α → MS S Bool} {f : α → MS S (Fl α α)} (e : α → Env) (a0 : α) (n : Nat) (h : ∀ a, EvT J tc (e a) (c a)) (w : ∀ a, Wk (e a) esc)
    (hb : ∀ a, Sv J Ta esc tb (e a) (f a) (Fl.fin e e)) : Sv J Ta esc (tWhile tc tb) (e a0) (whlF c f n a0) (Fr.fin e) := fun σ G s H L o E _ q => by
  refine ⟨fun k σ H => ∃ a G2 s2 L2, Ok J.Z (J.lay s2) (e a) G2 σ L2 H ∧ Pss J esc G2 E (Fr.fin e) (whlF c f k a s2), ⟨n, a0, G, s, L, o, q⟩, fun k σ H ⟨a, G2, s2, L2, o2, q2⟩ => ?_⟩
  cases k with
  | zero => exact q2.elim
  | succ k =>
    refine (h a).runS o2 (w a) q2 fun b b' G3 s3 H3 sm3 o3 hb' q3 => ?_
    cases hb'
    cases b with
    | true =>
      refine ⟨fun σ H => ∃ a G2 s2 L2, Ok J.Z (J.lay s2) (e a) G2 σ L2 H ∧ Pss J esc G2 E (Fr.fin e) (whlF c f k a s2), fun σ' H' p => ⟨k, Nat.lt_succ_self k, p⟩, ?_⟩
      refine hb a σ G3 s3 H3 L2 o3 _ trivial (Pss.bind (E := E) (fin := Fr.fin e) (m := f a) q3 fun b s5 q5 => ?_)
      cases b with
      | nx b => exact fun σ6 G6 H6 L6 sm6 o6 => ⟨b, G6, s5, L6, o6, Pss.mono sm6 q5⟩
      | ct b => exact fun σ6 G6 H6 L6 sm6 o6 => ⟨b, G6, s5, L6, o6, Pss.mono sm6 q5⟩
      | bk b => exact q5
      | rt b => exact q5
    | false => exact q3 σ G3 H3 L2 (Same.refl _) o3
end
end Dm

set_option Elab.async false
set_option linter.all false
set_option maxRecDepth 100000
namespace Dm
open PySem PySem.Spec PyProof.Rows L2
section
variable {S : Type} {J : Jc S} {α β γ δ τ : Type} {ρ esc : Env} {σ : Sl} {G G' H : Hp} {L : Led} {T : Ends → Prop} {E : Ends}
/-! ### own lists, changed -/
/-- a change of the own list in slot i: the state behind it -/
theorem Ok.put {B : Led} {i : Nat} {ds : List D} (o : Ok J.Z B ρ G σ L H) (h : ρ[i]? = some (.O ds)) : ∃ (p : Addr) (xs : List V), σ[i]? = some (some (.ref p)) ∧ H p = some (.lst xs) ∧ RpAll J.Z G xs ds ∧
    ∀ ys es, RpAll J.Z G ys es → ∃ L', Ok J.Z B (ρ.set i (.O es)) G σ L' (upd H p (.lst ys)) := by
  obtain ⟨p, xs, L1, L2, a1, a2, a3, a4, a5⟩ := o.own h
  refine ⟨p, xs, a1, a3, a4, fun ys es r => ⟨_, a5 G ys es (Same.refl _) r, ?_⟩⟩
  have w := o.2
  rw [a2, List.append_assoc, List.cons_append] at w
  rw [List.append_assoc, List.cons_append]
  exact w.put
def app1 (ds : List D) (d : D) : Option (List D) := if ds.length < tooLong then some (ds ++ [d]) else none
theorem ite_some {p : Prop} [Decidable p] {a b : α} (h : (if p then some a else none) = some b) : p ∧ a = b := by
  by_cases hp : p
  · rw [if_pos hp] at h
    cases h
    exact ⟨hp, rfl⟩
  · rw [if_neg hp] at h
    cases h
/-- xs.append(e) -/
theorem sv_app {K : PySem.W.Frag} {i : Nat} {ds : List D} {te : TE} {m : MS S D} (hi : ρ[i]? = some (.O ds)) (h : Ev J te ρ m) (w : Wk ρ esc) :
    Sv J Ta esc (tDrop (tBM K "list" rAppend (tVar i) (tCons te tNil))) ρ (bnd m fun d => lft (app1 ds d)) (fun es => .nx (ρ.set i (.O es))) := fun σ G s H L o E _ q => by
  obtain ⟨p, xs, a1, a2, a3, _⟩ := o.put hi
  refine ⟨.ref p, a1, .inl ⟨rfl, xs, sq_l a2⟩, h.runS o w q fun d v G1 s1 H1 e1 o1 r q1 => Pss.lft q1 fun es he q2 => ?_⟩
  obtain ⟨hl, rfl⟩ := ite_some he
  obtain ⟨p', ys, b1, b2, b3, b4⟩ := o1.put hi
  rw [a1] at b1
  cases b1
  obtain ⟨L', o2⟩ := b4 (ys ++ [v]) (ds ++ [d]) (b3.append (.one r))
  exact ⟨p, ys, v, rfl, rfl, b2, long_lt (by rw [b3.length]; exact hl), q2 σ G1 _ L' (Same.refl _) o2⟩
def set1 (ds : List D) (k d : D) : Option (List D) := match k with
  | .int i => match ixN ds.length i with
    | some j => some (ds.set j d)
    | none => none
  | _ => none
/-- xs[k] = e -/
theorem sv_setI {i : Nat} {ds : List D} {te ti : TE} {m n : MS S D} (hi : ρ[i]? = some (.O ds)) (h : Ev J te ρ m) (hk : Ev J ti ρ n) (w : Wk ρ esc) :
    Sv J Ta esc (tAsg te (gSub (tVar i) ti rSetL)) ρ (bnd m fun d => bnd n fun k => lft (set1 ds k d)) (fun es => .nx (ρ.set i (.O es))) := fun σ G s H L o E _ q =>
  h.runS o w q fun d v G1 s1 H1 e1 o1 r q1 => by
    obtain ⟨p, xs, a1, a2, a3, _⟩ := o1.put hi
    refine ⟨.ref p, a1, hk.runS o1 w q1 fun k u G2 s2 H2 e2 o2 rk q2 => Pss.lft q2 fun es he q3 => ?_⟩
    cases k with
    | int z =>
      unfold set1 at he
      dsimp only at he
      cases e : ixN ds.length z with
      | none => rw [e] at he; cases he
      | some j =>
        rw [e] at he
        cases he
        obtain ⟨p', ys, b1, b2, b3, b4⟩ := o2.put hi
        rw [a1] at b1
        cases b1
        obtain ⟨L', o3⟩ := b4 (ys.set j v) (ds.set j d) (b3.set (r.mono e2) j)
        exact ⟨p, ys, z, j, rfl, rX.int (J := J) (ρ := ρ) (σ := σ) (.inl rk), b2, by rw [b3.length]; exact e, q3 σ G2 _ L' (Same.refl _) o3⟩
    | _ => cases he
def ins1 (ds : List D) (k d : D) : Option (List D) := match k with
  | .int i => if ds.length < tooLong ∧ 0 ≤ i ∧ i.natAbs < 2305843009213693952 then some (ds.take i.toNat ++ [d] ++ ds.drop i.toNat) else none
  | _ => none
def rIns : V → List V → Hp → VK → Prop := fun x vs H Q => ∃ (l : Addr) (xs : List V) (i : Int) (y : V), x = .ref l ∧ vs = [.int i, y] ∧ H l = some (.lst xs) ∧ xs.length < sizeLine ∧ 0 ≤ i ∧ i < 2 ^ 63 ∧ Q .non (upd H l (.lst (xs.take i.toNat ++ [y] ++ xs.drop i.toNat)))
/-- xs.insert(k, e) -/
theorem sv_ins {K : PySem.W.Frag} {i : Nat} {ds : List D} {te ti : TE} {m n : MS S D} (hi : ρ[i]? = some (.O ds)) (hk : Ev J ti ρ n) (h : Ev J te ρ m) (w : Wk ρ esc) :
    Sv J Ta esc (tDrop (tBM K "list" rIns (tVar i) (tCons ti (tCons te tNil)))) ρ (bnd n fun k => bnd m fun d => lft (ins1 ds k d)) (fun es => .nx (ρ.set i (.O es))) := fun σ G s H L o E _ q => by
  obtain ⟨p, xs, a1, a2, a3, _⟩ := o.put hi
  refine ⟨.ref p, a1, .inl ⟨rfl, xs, sq_l a2⟩, hk.runS o w q fun k u G1 s1 H1 e1 o1 rk q1 => h.runS o1 w q1 fun d v G2 s2 H2 e2 o2 r q2 => Pss.lft q2 fun es he q3 => ?_⟩
  cases k with
  | int z =>
    unfold ins1 at he
    dsimp only at he
    obtain ⟨hl, rfl⟩ := ite_some he
    obtain ⟨p', ys, b1, b2, b3, b4⟩ := o2.put hi
    rw [a1] at b1
    cases b1
    obtain ⟨L', o3⟩ := b4 (ys.take z.toNat ++ [v] ++ ys.drop z.toNat) _ (((b3.take _).append (.one r)).append (b3.drop _))
    exact ⟨p, ys, z, v, rfl, by rw [rX.int (J := J) (ρ := ρ) (σ := σ) (.inl rk)], b2, long_lt (by rw [b3.length]; exact hl.1), hl.2.1, by have := hl.2.2; have := hl.2.1; omega, q3 σ G2 _ L' (Same.refl _) o3⟩
  | _ => cases he
/-- xs.extend(e), e a list -/
def ext1 (ds : List D) (d : D) : Option (List D) := match d with
  | .lst es => if ds.length + es.length < tooLong then some (ds ++ es) else none
  | _ => none
theorem sv_ext {K : PySem.W.Frag} {i : Nat} {ds : List D} {te : TE} {m : MS S D} (hi : ρ[i]? = some (.O ds)) (h : Ev J te ρ m) (w : Wk ρ esc) :
    Sv J Ta esc (tDrop (tBM K "list" rExtend (tVar i) (tCons te tNil))) ρ (bnd m fun d => lft (ext1 ds d)) (fun es => .nx (ρ.set i (.O es))) := fun σ G s H L o E _ q => by
  obtain ⟨p, xs, a1, a2, a3, _⟩ := o.put hi
  refine ⟨.ref p, a1, .inl ⟨rfl, xs, sq_l a2⟩, h.runS o w q fun d v G1 s1 H1 e1 o1 r q1 => Pss.lft q1 fun es he q2 => ?_⟩
  cases d with
  | lst ks =>
    unfold ext1 at he
    dsimp only at he
    obtain ⟨hl, rfl⟩ := ite_some he
    obtain ⟨p', ys, b1, b2, b3, b4⟩ := o1.put hi
    rw [a1] at b1
    cases b1
    obtain ⟨b, zs, rfl, c1, c2⟩ := rX.lst (J := J) (ρ := ρ) (σ := σ) o1 (.inl r)
    obtain ⟨L', o2⟩ := b4 (ys ++ zs) _ (b3.append c2)
    exact ⟨p, b, ys, zs, rfl, rfl, b2, c1, long_ok (by rw [b3.length, c2.length]; exact hl), q2 σ G1 _ L' (Same.refl _) o2⟩
  | _ => cases he
/-- x = xs.pop() -/
def pop1 (ds : List D) : Option (D × List D) := match ds[ds.length - 1]? with
  | some d => some (d, ds.dropLast)
  | none => none
theorem RpAll.dropLast {Z : Wo} {xs : List V} {ds : List D} (r : RpAll Z G xs ds) : RpAll Z G xs.dropLast ds.dropLast := by
  rw [List.dropLast_eq_take, List.dropLast_eq_take, r.length]
  exact r.take _
theorem sv_asgPop {K : PySem.W.Frag} {i j : Nat} {ds : List D} (hi : ρ[i]? = some (.O ds)) (w : Wk ρ esc) :
    Sv J Ta esc (tAsg (tBM0 K "list" rPop (tVar i)) (gName j)) ρ (lft (pop1 ds)) (fun t => .nx ((ρ.set i (.O t.2)).set j (.P t.1))) := fun σ G s H L o E _ q => by
  obtain ⟨p, xs, a1, a2, a3, a4⟩ := o.put hi
  refine ⟨.ref p, a1, .inl ⟨rfl, xs, sq_l a2⟩, ?_⟩
  refine Pss.lft q fun t ht q1 => ?_
  unfold pop1 at ht
  cases e : ds[ds.length - 1]? with
  | none => rw [e] at ht; cases ht
  | some d =>
    rw [e] at ht
    cases ht
    obtain ⟨v, b1, b2⟩ := a3.get e
    obtain ⟨L', o1⟩ := a4 xs.dropLast ds.dropLast a3.dropLast
    obtain ⟨L2, o2⟩ := o1.set (i := j) b2
    exact ⟨p, xs, v, rfl, rfl, a2, by rw [a3.length]; exact b1, q1 _ G _ L2 (Same.refl _) o2⟩
/-- xs.pop(k), dropped -/
def popA (ds : List D) (k : D) : Option (List D) := match k with
  | .int i => if i.natAbs < 2305843009213693952 then match seqIndex? i ds.length with
      | some j => if j < ds.length then some (ds.eraseIdx j) else none
      | none => none
    else none
  | _ => none
theorem sv_popA {K : PySem.W.Frag} {i : Nat} {ds : List D} {ti : TE} {n : MS S D} (hi : ρ[i]? = some (.O ds)) (hk : Ev J ti ρ n) (w : Wk ρ esc) :
    Sv J Ta esc (tDrop (tBM K "list" rPopAt (tVar i) (tCons ti tNil))) ρ (bnd n fun k => lft (popA ds k)) (fun es => .nx (ρ.set i (.O es))) := fun σ G s H L o E _ q => by
  obtain ⟨p, xs, a1, a2, a3, _⟩ := o.put hi
  refine ⟨.ref p, a1, .inl ⟨rfl, xs, sq_l a2⟩, hk.runS o w q fun k u G1 s1 H1 e1 o1 rk q1 => Pss.lft q1 fun es he q3 => ?_⟩
  cases k with
  | int z =>
    unfold popA at he
    dsimp only at he
    by_cases hz : z.natAbs < 2305843009213693952
    · rw [if_pos hz] at he
      cases e : seqIndex? z ds.length with
      | none => rw [e] at he; cases he
      | some j =>
        rw [e] at he
        dsimp only at he
        obtain ⟨hl, rfl⟩ := ite_some he
        obtain ⟨p', ys, b1, b2, b3, b4⟩ := o1.put hi
        rw [a1] at b1
        cases b1
        obtain ⟨L', o3⟩ := b4 (ys.eraseIdx j) _ (b3.eraseIdx j)
        obtain ⟨v, c1, c2⟩ := b3.get (List.getElem?_eq_getElem hl)
        exact ⟨p, ys, z, j, v, rfl, by rw [rX.int (J := J) (ρ := ρ) (σ := σ) (.inl rk)], b2, by omega, by omega, by rw [b3.length]; exact e, c1, q3 σ G1 _ L' (Same.refl _) o3⟩
    · rw [if_neg hz] at he
      cases he
  | _ => cases he
/-- n += e, ints -/
theorem sv_aug {f : Int → Int → Int} {i : Nat} {a : D} {te : TE} {m : MS S D} (hi : ρ[i]? = some (.P a)) (h : Ev J te ρ m) (w : Wk ρ esc) :
    Sv J Ta esc (tAug i te (ipI f)) ρ (bnd m fun d => lft (oI f a d)) (fun d => .nx (ρ.set i (.P d))) := fun σ G s H L o E _ q => by
  obtain ⟨v, b1, b2⟩ := o.1.var hi
  refine ⟨v, b1, h.runS o w q fun d u G1 s1 H1 e1 o1 r q1 => Pss.lft q1 fun z hz q2 => ?_⟩
  cases a with
  | int x =>
    cases d with
    | int y =>
      cases hz
      cases b2
      cases r
      obtain ⟨L', o2⟩ := o1.set (i := i) (.int (f x y))
      exact ⟨x, y, rfl, rfl, q2 _ G1 H1 L' (Same.refl _) o2⟩
    | _ => cases hz
  | _ => cases hz

/-! ### comprehensions -/
def nex (m : MS S α) : MS S α := fun s => match m s with
  | .ok a s' => .ok a s'
  | _ => .stuck
theorem nex_ret (a : α) : (nex (ret a) : MS S α) = ret a := rfl
theorem nex_stk : (nex stk : MS S α) = stk := rfl
theorem nex_rse (c : Nat) (fs : List D) : (nex (rse c fs) : MS S α) = stk := rfl
theorem nex_lft (o : Option α) : (nex (lft o) : MS S α) = lft o := by
  cases o <;> rfl
theorem nex_bnd (m : MS S α) (k : α → MS S β) : nex (bnd m k) = bnd (nex m) fun a => nex (k a) := by
  funext s
  show (match (m s).go k with
    | .ok a s' => Rs.ok a s'
    | _ => .stuck) = (match m s with
    | .ok a s' => Rs.ok a s'
    | _ => .stuck).go fun a => nex (k a)
  cases m s <;> rfl
theorem nex_ite (b : Prop) [Decidable b] (m n : MS S α) : nex (if b then m else n) = if b then nex m else nex n := by
  by_cases h : b
  · rw [if_pos h, if_pos h]
  · rw [if_neg h, if_neg h]
def lcM (un : D → Option τ) (c : τ → MS S Bool) (f : τ → MS S D) : List D → MS S (List D)
  | [] => ret []
  | d :: ds => bnd (lft (un d)) fun t => bnd (nex (c t)) fun b => if b = true then bnd (nex (f t)) fun y => bnd (lcM un c f ds) fun ys => ret (y :: ys) else lcM un c f ds
def Jc.add (J : Jc S) (p : Addr) (xs : List V) : Jc S where
  Z := J.Z
  lay := fun s => (p, .lst xs) :: J.lay s
  X := fun _ _ _ _ => False
def wipeE (ρ : Env) : List Nat → Env
  | [] => ρ
  | v :: vs => (wipeE ρ vs).set v .U
theorem Cells.setU {Z : Wo} {x : Option V} : ∀ {e : Env} {σ : Sl} {L : Led} (i : Nat), noO e[i]? = true → Cells Z G e σ L → Cells Z G (e.set i .U) (σ.set i x) L
  | _, _, _, _, _, .nil => .nil
  | _, _, _, 0, _, .U c => .U c
  | _, _, _, 0, _, .P q c => .U c
  | _, _, _, 0, h, .O q c => absurd h Bool.false_ne_true
  | _, _, _, 0, h, .Q q c => absurd h Bool.false_ne_true
  | _, _, _, 0, _, .A f c => .U c
  | _, _, _, i + 1, h, .U c => .U (c.setU i (by simpa using h))
  | _, _, _, i + 1, h, .P q c => .P q (c.setU i (by simpa using h))
  | _, _, _, i + 1, h, .O q c => .O q (c.setU i (by simpa using h))
  | _, _, _, i + 1, h, .A f c => .A f (c.setU i (by simpa using h))
  | _, _, _, i + 1, h, .Q f c => .Q f (c.setU i (by simpa using h))
theorem set_U {ρ : Env} {i j : Nat} (h : noO ρ[j]? = true) : noO (ρ.set i .U)[j]? = true := by
  by_cases hij : i = j
  · subst hij
    by_cases hl : i < ρ.length
    · rw [List.getElem?_set_self hl]
      rfl
    · rw [List.getElem?_eq_none (by simpa using hl)]
      rfl
  · rw [List.getElem?_set_ne hij]
    exact h
theorem wipeE_O {j : Nat} (h : noO ρ[j]? = true) : ∀ vs : List Nat, noO (wipeE ρ vs)[j]? = true
  | [] => h
  | _ :: vs => set_U (wipeE_O h vs)
theorem Cells.wipe {Z : Wo} : ∀ {vs : List Nat}, (∀ v ∈ vs, noO ρ[v]? = true) → Cells Z G ρ σ L → Cells Z G (wipeE ρ vs) (L2.wipe σ vs) L
  | [], _, c => c
  | v :: vs, h, c => Cells.setU v (wipeE_O (h v (by simp)) vs) (Cells.wipe (fun u hu => h u (by simp [hu])) c)
theorem wipe_at (σ : Sl) (i : Nat) : ∀ vs : List Nat, (L2.wipe σ vs)[i]? = if i ∈ vs then (σ[i]?).map (fun _ => none) else σ[i]?
  | [] => by
    rw [if_neg (by simp)]
    rfl
  | v :: vs => by
    show ((L2.wipe σ vs).set v none)[i]? = _
    by_cases hv : v = i
    · subst hv
      rw [if_pos (by simp)]
      by_cases hl : v < (L2.wipe σ vs).length
      · rw [List.getElem?_set_self hl]
        rw [wipe_length] at hl
        rw [List.getElem?_eq_getElem hl]
        rfl
      · rw [List.getElem?_eq_none (by simpa using hl)]
        rw [wipe_length] at hl
        rw [List.getElem?_eq_none (by omega)]
        rfl
    · rw [List.getElem?_set_ne hv, wipe_at σ i vs]
      by_cases hi : i ∈ vs
      · rw [if_pos hi, if_pos (by simp [hi])]
      · rw [if_neg hi, if_neg (by simp [hi, Ne.symm hv])]
theorem wipe_back {σ σ' : Sl} {vs js : List Nat} (hj : ∀ j ∈ js, j ∈ vs) (hl : σ'.length = (L2.wipe σ vs).length) (h : ∀ i, i ∉ js → σ'[i]? = (L2.wipe σ vs)[i]?) : L2.wipe σ' vs = L2.wipe σ vs := by
  refine List.ext_getElem? fun i => ?_
  rw [wipe_at, wipe_at]
  by_cases hi : i ∈ vs
  · rw [if_pos hi, if_pos hi]
    rw [wipe_length] at hl
    by_cases hlt : i < σ.length
    · rw [List.getElem?_eq_getElem hlt, List.getElem?_eq_getElem (by omega)]
      rfl
    · rw [List.getElem?_eq_none (by omega), List.getElem?_eq_none (by omega)]
  · rw [if_neg hi, if_neg hi, h i (fun z => hi (hj i z)), wipe_at, if_neg hi]
theorem EvI.runL {wi : TI} {m : MS S (List D)} {k : List D → MS S (List D)} {s : S} {Q : VK} (h1 : EvI J wi ρ m) (o : Ok J.Z (J.lay s) ρ G σ L H) (h : PstL J ρ σ L G Q (bnd m k s)) {R : It → Hp → Prop}
    (kk : ∀ ds I G' s' H', Same G G' → Ok J.Z (J.lay s') ρ G' σ L H' → Walk I ds.length (fun H => Same G' H) (YD J.Z G' ds) → PstL J ρ σ L G' Q (k ds s') → R I H') : wi σ H R := by
  refine h1 σ G s H L o _ ?_
  have h' : PstL J ρ σ L G Q ((m s).go k) := h
  cases e : m s with
  | stuck =>
    rw [e] at h'
    exact h'
  | ex c fs s' =>
    rw [e] at h'
    exact h'
  | ok a s' =>
    rw [e] at h'
    exact fun I G' H' sm o' wk => kk a I G' s' H' sm o' wk (PstL.mono sm h')
/-- within a comprehension: what is raised is not said -/
theorem EvG.runC {ρ' : Env} {σ' : Sl} {L' : Led} {p : Addr} {xs : List V} {R1 : Sl → Hp → γ → α → Prop} {t : Sl → Hp → (γ → Hp → Prop) → Prop} {Q : VK} {m : MS S α} {k : α → MS S (List D)} {s : S} (h1 : EvG (J.add p xs) R1 t ρ' m)
    (o : Ok J.Z ((p, .lst xs) :: J.lay s) ρ' G σ' L' H) (h : PstL J ρ σ L G Q (bnd (nex m) k s)) {P : γ → Hp → Prop} (kk : ∀ a b G' s' H', Same G G' → Ok J.Z ((p, .lst xs) :: J.lay s') ρ' G' σ' L' H' → R1 σ' G' b a → PstL J ρ σ L G' Q (k a s') → P b H') : t σ' H P := by
  refine h1 σ' G s H L' o _ ?_
  have h' : PstL J ρ σ L G Q ((match m s with
    | .ok a s' => Rs.ok a s'
    | _ => .stuck).go k) := h
  cases e : m s with
  | stuck =>
    rw [e] at h'
    exact h'
  | ex c fs s' =>
    rw [e] at h'
    exact h'.elim
  | ok a s' =>
    rw [e] at h'
    exact fun b G' H' sm o' r => kk a b G' s' H' sm o' r (PstL.mono sm h')
theorem el_lc {wi : TI} {g : TG} {tt : TT} {te : TE} {un : D → Option τ} {ex : τ → Env → Env} {js vs : List Nat} {m : MS S (List D)} {c : τ → MS S Bool} {f : τ → MS S D} (h : EvI J wi ρ m) (hg : ∀ p xs, Tg (J.add p xs) g un ex js)
    (ht : ∀ t p xs, EvT (J.add p xs) tt (ex t (wipeE ρ vs)) (c t)) (he : ∀ t p xs, Ev (J.add p xs) te (ex t (wipeE ρ vs)) (f t)) (hj : ∀ j ∈ js, j ∈ vs := by decide) (hO : ∀ v ∈ vs, noO ρ[v]? = true := by decide) :
    EvL J (tLc wi g tt te vs) ρ (bnd m fun ds => bnd (lft (mkL ds)) fun ds => lcM un c f ds) := fun σ G s H L o Q q =>
  h.runL o q fun ds0 I G1 s1 H1 e1 o1 wk q1 Dp hD => by
    have hO' : ∀ v ∈ vs, noO ρ[v]? = true := hO
    cases hds : mkL ds0 with
    | none =>
      rw [hds] at q1
      exact q1.elim
    | some ds =>
    rw [hds] at q1
    obtain ⟨rfl, hlen⟩ := mkL_some hds
    refine lc_it wk (fun i H => ∃ as xs G2 s2, Same G1 G2 ∧ Cells J.Z G2 ρ σ L ∧ Wd G2 ((Dp, .lst xs) :: (L ++ J.lay s2)) H ∧ RpAll J.Z G2 xs as ∧ as.length ≤ i ∧ PstL J ρ σ L G2 Q (bnd (lcM un c f (ds.drop i)) (fun ys => ret (as ++ ys)) s2))
      ⟨[], [], G1, s1, Same.refl _, o1.1, o1.2.keep hD, .nil, Nat.le_refl _, ?_⟩ (fun i H _ ⟨as, xs, G2, s2, sm, _, w, _⟩ => sm.trans w.same) (fun i x H2 H3 hi p y => ?_) fun H2 p => ?_
    · have e0 : (bnd (lcM un c f (ds.drop 0)) fun ys => ret ([] ++ ys)) = lcM un c f ds := by
        show (bnd (lcM un c f ds) fun ys => ret ys) = _
        exact bnd_id _
      rw [e0]
      exact q1
    · obtain ⟨as, xs, G2, s2, sm2, c2, w2, r2, hle, q2⟩ := p
      have hl : i < ds.length := hi
      have o2 : Ok J.Z ((Dp, .lst xs) :: J.lay s2) ρ G2 σ L H2 := ⟨c2, w2.perm List.perm_middle⟩
      obtain ⟨d, G3, hd, sm3, o3, r⟩ := y.ok sm2 o2
      have ed : ds.drop i = d :: ds.drop (i + 1) := by
        rw [List.drop_eq_getElem_cons hl]
        rw [List.getElem?_eq_getElem hl] at hd
        cases hd
        rfl
      rw [ed] at q2
      cases hu : un d with
      | none =>
        unfold lcM at q2
        rw [hu] at q2
        exact q2.elim
      | some t =>
        unfold lcM at q2
        rw [hu] at q2
        have q3 : PstL J ρ σ L G2 Q (bnd (bnd (nex (c t)) fun b => if b = true then bnd (nex (f t)) fun y => bnd (lcM un c f (ds.drop (i + 1))) fun ys => ret (y :: ys) else lcM un c f (ds.drop (i + 1))) (fun ys => ret (as ++ ys)) s2) := q2
        rw [bnd_bnd] at q3
        have ow : Ok (J.add Dp xs).Z ((J.add Dp xs).lay s2) (wipeE ρ vs) G3 (L2.wipe σ vs) L H3 := ⟨o3.1.wipe hO', o3.2⟩
        refine (hg Dp xs).go d t _ x _ G3 s2 H3 L hu ow r _ fun σ4 L4 o4 hlen4 hsame hL4 => ?_
        have eL : L4 = L := hL4 fun j hjj => wipeE_O (hO' j (hj j hjj)) vs
        subst eL
        refine ⟨wipe_back hj hlen4 hsame, ?_⟩
        refine (ht t Dp xs).runC (ρ := ρ) (σ := σ) (L := L4) o4 (PstL.mono sm3 q3) fun b b' G5 s5 H5 sm5 o5 hb q5 => ?_
        cases hb
        cases b with
        | false =>
          refine ⟨as, xs, G5, s5, (sm2.trans sm3).trans sm5, c2.mono (sm3.trans sm5), o5.2.perm List.perm_middle.symm, r2.mono (sm3.trans sm5), Nat.le_succ_of_le hle, q5⟩
        | true =>
          rw [if_pos rfl, bnd_bnd] at q5
          refine (he t Dp xs).runC (ρ := ρ) (σ := σ) (L := L4) o5 q5 fun y vv G6 s6 H6 sm6 o6 ry q6 => ?_
          have w6 : Wd G6 ((Dp, .lst xs) :: (L4 ++ J.lay s6)) H6 := o6.2.perm List.perm_middle.symm
          have sm36 := (sm3.trans sm5).trans sm6
          refine ⟨xs, (w6.own (Dp, .lst xs) List.mem_cons_self).1, long_lt (by rw [r2.length]; omega), as ++ [y], xs ++ [vv], G6, s6, sm2.trans sm36, c2.mono sm36, w6.put (L1 := []), (r2.mono sm36).append (.one ry), by rw [List.length_append]; exact Nat.succ_le_succ hle, ?_⟩
          rw [bnd_bnd] at q6
          have e9 : (bnd (lcM un c f (ds.drop (i + 1))) fun ys => bnd (ret (y :: ys)) fun ys => ret (as ++ ys)) = bnd (lcM un c f (ds.drop (i + 1))) fun ys => (ret (as ++ [y] ++ ys) : MS S (List D)) := by
            congr 1
            funext ys
            show ret (as ++ y :: ys) = _
            rw [List.append_assoc]
            rfl
          rw [e9] at q6
          exact q6
    · obtain ⟨as, xs, G2, s2, sm2, c2, w2, r2, hle, q2⟩ := p
      rw [List.drop_length] at q2
      have q3 : PstL J ρ σ L G2 Q (.ok (as ++ []) s2) := q2
      rw [List.append_nil] at q3
      exact q3 Dp xs G2 H2 (Same.refl _) ⟨c2, w2⟩ r2
theorem et_yes : EvT J tYes ρ (ret true) := fun σ G s H L o Q q => q true G H (Same.refl _) o rfl

/-! ### defs: what is promised, how they are called -/
def EndP (Z : Wo) (lay : S → Led) (G : Hp) (Q : VK) (E : XK) : Rs S D → Prop
  | .stuck => False
  | .ok d s => ∀ v G' H', Same G G' → Wd G' (lay s) H' → Rp Z G' v d → Q v H'
  | .ex c fs s => ∀ dx vs G' H', Same G G' → Wd G' (lay s) H' → G' dx = some (.xd ((Z.fn c).zip vs)) → (Z.fn c).length = vs.length → RpAll Z G' vs fs → E (.ref (Z.cl c)) (some dx) H'
/-- a def's promise: it does what m says of the data -/
def spM (Z : Wo) (m : (S : Type) → List D → MS S D) : Sp := fun vs H Q E => ∃ (S : Type) (lay : S → Led) (G : Hp) (s : S) (ds : List D), Wd G (lay s) H ∧ RpAll Z G vs ds ∧ EndP Z lay G Q E (m S ds s)
theorem spM_len {Z : Wo} {m : (S : Type) → List D → MS S D} {n : Nat} (hm : ∀ S ds, ds.length ≠ n → m S ds = stk) {vs : List V} {H : Hp} {Q : VK} {E : XK} (h : spM Z m vs H Q E) : vs.length = n := by
  obtain ⟨S, lay, G, s, ds, w, r, e⟩ := h
  by_cases hl : ds.length = n
  · rw [r.length, hl]
  · rw [hm S ds hl] at e
    exact e.elim
theorem ev_call {m : (S : Type) → List D → MS S D} {dvs : List V} {dds : List D} {ta : TA} {ma : MS S (List D)} (h : EvA J ta ρ ma) (hd : ∀ G, RpAll J.Z G dvs dds := by intro _; repeat constructor) :
    Ev J (tCallSD (spM J.Z m) dvs (WE J.X) ta) ρ (bnd ma fun ds => m S (ds ++ dds)) := fun σ G s H L o Q q =>
  h.run o q fun ds xs G1 s1 H1 e1 o1 r q1 => by
    refine ⟨S, fun s => L ++ J.lay s, G1, s1, ds ++ dds, o1.2, RpAll.append r (hd G1), ?_⟩
    cases e : m S (ds ++ dds) s1 with
    | stuck =>
      rw [e] at q1
      exact q1
    | ex c fs s2 =>
      rw [e] at q1
      exact fun dx vs G' H' sm w a b rr => q1 dx vs G' H' sm ⟨o1.1.mono sm, w⟩ a b rr
    | ok d s2 =>
      rw [e] at q1
      exact fun v G' H' sm w rr => q1 v G' H' sm ⟨o1.1.mono sm, w⟩ rr
/-- a def's body keeps its promise -/
def ends (Q : VK) : Ends := { nx := fun _ H => Q .non H, rt := Q }
theorem body_ok {t : TS} {m : MS S D} {Q : VK} {X : XK} {s : S} (sv : Sv J Tl esc t ρ m Fin.rt) (o : Ok J.Z (J.lay s) ρ G σ L H) (hX : ∀ cls d σ H, X cls d H → J.X cls d σ H) (e : EndP J.Z J.lay G Q X (m s)) : t (ends Q) σ H := by
  refine sv σ G s H L o (ends Q) (fun σ H q => q) ?_
  cases em : m s with
  | stuck =>
    rw [em] at e
    exact e
  | ex c fs s2 =>
    rw [em] at e
    exact fun σ' dx vs G' H' L' sm o' a b rr => hX _ _ _ _ (e dx vs G' H' sm o'.wd a b rr)
  | ok d s2 =>
    rw [em] at e
    exact e
end
/-- the slots at a def's start -/
def startE (ds : List D) (n : Nat) : Env := ds.map Cell.P ++ List.replicate n .U
theorem cells_more {Z : Wo} {G : Hp} {e : Env} {σ : Sl} {L : Led} (c : Cells Z G e σ L) : ∀ {vs : List V} {ds : List D}, RpAll Z G vs ds → Cells Z G (ds.map Cell.P ++ e) (vs.map some ++ σ) L
  | _, _, .nil => c
  | _, _, .cons h r => .P h (cells_more c r)
theorem cells_none {Z : Wo} {G : Hp} : ∀ n : Nat, Cells Z G (List.replicate n .U) (List.replicate n none) []
  | 0 => .nil
  | n + 1 => .U (cells_none n)
theorem cells_start {Z : Wo} {G : Hp} {N : List Str} {vs : List V} {ds : List D} {n : Nat} (r : RpAll Z G vs ds) (h : N.length = ds.length + n) : Cells Z G (startE ds n) (L2.start N vs) [] := by
  unfold startE L2.start
  have e : N.length - vs.length = n := by
    rw [r.length, h]
    omega
  rw [e]
  exact cells_more (cells_none n) r
end Dm

set_option Elab.async false
set_option linter.all false
set_option maxRecDepth 100000
set_option maxHeartbeats 2000000
namespace Dm
open PySem PySem.Spec PyProof.Rows L2

/-! ### try: several clauses, each with a name or without -/
/-- D, the clause's name let go behind it -/
def gone (E : Ends) : Option Nat → Ends
  | none => E
  | some i => { nx := fun σ H => E.nx (σ.set i none) H, rt := E.rt, bk := fun σ H => E.bk (σ.set i none) H, ct := fun σ H => E.ct (σ.set i none) H }
def held (σ : Sl) (a : Addr) : Option Nat → Sl
  | none => σ
  | some i => σ.set i (some (.ref a))
abbrev Cls3 := Value × Option Nat × (Addr → Value → Option Addr → TS)
def wHs (K : PySem.W.Frag) (Wo : WX) (E : Ends) : List Cls3 → WX
  | [] => Wo
  | q :: r => fun cls d σ H => ∃ b, PySem.W.exmOne K cls q.1 = some b ∧ (b = true → ∀ a, H a = none → q.2.2 a cls d (gone E q.2.1) (held σ a q.2.1) H) ∧ (b = false → wHs K Wo E r cls d σ H)
/-- the clause's name is a slot -/
def Nm (X : Cx) : Option Str → Option Nat → Prop
  | none, none => True
  | some n, some i => X.N[i]? = some n ∧ X.env.kindOf n = some .local
  | _, _ => False
inductive HdsA (X : Cx) : List ExceptHandler → List Cls3 → Prop
  | nil : HdsA X [] []
  | cons {x : Str} {n : Option Str} {i : Option Nat} {c : Value} {ts : Addr → Value → Option Addr → TS} {b₀ : Stmt} {sts : List Stmt} {p1 p2 : Pos} {hs : List ExceptHandler} {l : List Cls3} (hc : Names X x c) (hn : Nm X n i)
      (hu : ∀ (a : Addr) (oe : Obj) (cls : Value) (d : Option Addr) (pn : List (Addr × Obj)), Zc cls d oe → (∃ vs, oe.data = .fields vs) → PSs (X.suite a ((a, oe) :: pn)) (b₀ :: sts) (ts a cls d)) (r : HdsA X hs l) :
      HdsA X (.ExceptHandler (some (.Name x p1)) n (b₀ :: sts) p2 :: hs) ((c, i, ts) :: l)
section
variable {X : Cx} {body : List Stmt} {k0 : ExceptHandler} {ks : List ExceptHandler} {l : List Cls3} {pos : Pos} {tb : WX → TS} {Wo : WX}
theorem ps_tryA (hst : X.stack = X.env :: X.outer) (hfr : X.env.frame = some X.env.locals) (hN : X.N.Nodup) (tk : Takes X Wo)
    (hb : ∀ (W : WX) (pn : List (Addr × Obj)) (xe : Value → Shared → Prop), Takes (X.tr pn xe) W → PassesOwn (model X.prog X.w) X.A X.env xe → PSs (X.tr pn xe) body (tb W)) (hh : HdsA X (k0 :: ks) l) :
    PS X (.Try body (k0 :: ks) [] [] pos) (fun E σ H => tb (wHs X.K Wo E l) E σ H) := by
  constructor
  intro pins s σ H D I hw
  have okX := I.ok
  have frames : X.A.frames = some (X.env :: X.outer) := by
    rw [okX.frames, hst]
  apply wpAny_Try_except
  let xe' : Value → Shared → Prop := fun e u1 => wpAny (model X.prog X.w) X.A (noteFrame e X.env) (fun _ u2 => wpAny (model X.prog X.w) X.A (setFlight e none) (fun _ u3 => wpAny (model X.prog X.w) X.A (handleBy e X.env (k0 :: ks)) (SP X pins D) X.xe u3) X.xe u2) X.xe u1
  have B1 := hb (wHs X.K Wo D l) (X.pn ++ pins) xe' (fun u t0 xx => ?caught) PassesOwn.looking
  case caught =>
    obtain ⟨a, B, sI, pins', σ1, H1, cls, d, rfl, I', nb, up, sky, na, os, ag, wish⟩ := xx
    have I1 : Inv X pins σ1 H1 sI := I'.ofTry okX
    have sky1 : Sky B (X.env :: X.outer) a (Zc cls d) X.env.locals t0.heap := by
      rw [← hst]
      exact sky
    refine (Sky.land Zc.steady frames hfr sky1 fun g3 fly3 up3 => ?_ : wpAny (model X.prog X.w) X.A (noteFrame (.ref a) X.env) _ _ _)
    have I3 : Inv X pins σ1 H1 { t0 with heap := g3 } := I1.landed nb fly3.1 (up.trans up3) os ag
    obtain ⟨o3, w3, at3, z3, dt3⟩ := fly3.there
    have far : a ∉ frs (X.env :: X.outer) := fun hm => by
      obtain ⟨_, o', e', hno⟩ := fly3.2.2.1.mem hm
      rw [at3] at e'
      cases e'
      exact hno _ dt3
    have aL : a ≠ X.env.locals := fun z => far (List.mem_filterMap.mpr ⟨X.env, List.mem_cons_self, by rw [hfr, z]⟩)
    have aF : a ∉ X.fs := fun hm => by
      obtain ⟨e, he, q⟩ := List.mem_filterMap.mp hm
      exact far (List.mem_filterMap.mpr ⟨e, List.mem_cons_of_mem _ he, q⟩)
    have S3 := I3.suite at3 dt3 na aL aF
    have each : ∀ {hs' : List ExceptHandler} {l' : List Cls3}, HdsA X hs' l' → wHs X.K Wo D l' cls d σ1 H1 → wpAny (model X.prog X.w) X.A (handleBy (.ref a) X.env hs') (SP X pins D) X.xe { t0 with heap := g3 } := by
      intro hs' l' hk
      induction hk with
      | nil =>
        intro wsh
        refine wpAny_handleBy_nil ?_
        obtain ⟨j1, j2, j3, oe, vs, T, oT, ts', he, hz, hd, h1, hr⟩ := id fly3
        unfold PySem.passOn
        refine wpAny_bind (wpAny_field he hd h1 ?_)
        have nn : ¬ ((Value.ref T == Value.none) = true) := by simp
        rw [if_neg nn]
        have last : wpAny (model X.prog X.w) X.A (setFlight (.ref a) X.env.frame) (fun _ u4 => wpAny (model X.prog X.w) X.A (throw (.ref a) : Sem Flow) (SP X pins D) X.xe u4) X.xe { t0 with heap := g3 } := by
          rw [hfr]
          refine HandSPX.setFlight_upZ fly3 fun g4 gg4 up4 => wpAny_throw (tk _ _ ?_)
          exact ⟨a, B, sI, pins, σ1, H1, cls, d, rfl, I1, nb, (up.trans up3).trans up4, .inr (.inr (by rw [hst]; exact gg4)), na, os, ag, wsh⟩
        first
          | exact wpAny_bind (wpAny_pure (wpAny_bind last))
          | exact wpAny_bind last
      | @cons x n i c ts b₀ sts p1 p2 hs2 l2 hc hn hu r ih =>
        intro wsh
        obtain ⟨b, hb1, yes, no⟩ := wsh
        refine wpAny_handleBy_cons (codeAny_handlers_test ?_) (by intro q; cases q)
        have look : PySem.W.Looks (model X.prog X.w) g3 (typeOf (.ref a)) cls := fun A Q E s k q => wpAny_typeOf_ref (k _ _ at3) (by rw [z3.1]; exact q)
        have match1 := PySem.W.exm_one (M := model X.prog X.w) I3.kIn look hb1
        have names : ∀ {Q : Value → Shared → Prop} {E : Value → Shared → Prop}, Q c { t0 with heap := g3 } → wpAny (model X.prog X.w) (X.A.mark (some (.ref a))) (eval (.Name x p1) X.env) Q E { t0 with heap := g3 } := fun {Q E} q => by
          obtain ⟨hg, hdb, hm | ⟨hm, hv, hnn⟩⟩ := hc
          · exact ld_glob (X := X.suite a ((a, o3) :: (X.pn ++ pins))) S3 hg hm q hdb
          · exact ld_blt (X := X.suite a ((a, o3) :: (X.pn ++ pins))) S3 hg hm hv q hnn hdb
        refine names (match1.here ?_)
        cases b with
        | false => exact ih (no rfl)
        | true =>
          have yes1 := yes rfl a na
          cases n with
          | none =>
            cases i with
            | some i => exact hn.elim
            | none =>
              refine codeAny_handlers_suite (HandSPX.lands_againZ fly3 fun g4 fly4 up4 => ?_)
              have I4 : Inv X pins σ1 H1 { t0 with heap := g4 } := I1.landed nb fly4.1 ((up.trans up3).trans up4) os ag
              obtain ⟨o4, w4, at4, z4, dt4⟩ := fly4.there
              have S4 := I4.suite at4 dt4 na aL aF
              refine wpAny_mono ((hu a o4 cls d (X.pn ++ pins) z4 ⟨_, dt4⟩).run [] _ _ H1 _ S4 yes1) (fun f u6 sp => ?_) (fun _ _ z => z.elim)
              cases f with
              | ret u =>
                obtain ⟨v6, σ6, H6, S6, r6, q6⟩ := sp
                exact ⟨_, _, _, S6.unsuite okX, r6, q6⟩
              | next =>
                obtain ⟨σ6, H6, S6, q6⟩ := sp
                exact ⟨_, _, S6.unsuite okX, q6⟩
              | cont =>
                obtain ⟨σ6, H6, S6, q6⟩ := sp
                exact ⟨_, _, S6.unsuite okX, q6⟩
              | brk =>
                obtain ⟨σ6, H6, S6, q6⟩ := sp
                exact ⟨_, _, S6.unsuite okX, q6⟩
          | some nm =>
            cases i with
            | none => exact hn.elim
            | some i =>
              obtain ⟨hi, hl⟩ := hn
              refine codeAny_handlers_suite_as (HandSPX.lands_againZ fly3 fun g4 fly4 up4 => ?_)
              have I4 : Inv X pins σ1 H1 { t0 with heap := g4 } := I1.landed nb fly4.1 ((up.trans up3).trans up4) os ag
              obtain ⟨o4, w4, at4, z4, dt4⟩ := fly4.there
              have S4 := I4.suite at4 dt4 na aL aF
              refine store_ok (X := X.suite a ((a, o4) :: (X.pn ++ pins))) (v := .ref a) S4 hN hi (.inl hl) rfl (fun u5 S5 => ?_) (.inr hl)
              refine wpAny_mono ((hu a o4 cls d (X.pn ++ pins) z4 ⟨_, dt4⟩).run [] u5 _ H1 _ S5 yes1) (fun f u6 sp => ?_) (fun _ _ z => z.elim)
              have drop1 : ∀ {σ6 : L2.St} {H6 : Hp} {Q : Shared → Prop}, Inv (X.suite a ((a, o4) :: (X.pn ++ pins))) [] σ6 H6 u6 → (∀ u7, Inv X pins (σ6.set i none) H6 u7 → Q u7) →
                  wpAny (model X.prog X.w) X.A (do bindName X.env nm .none; unbindBehindTheSuite X.env nm p2) (fun _ u7 => Q u7) X.xe u6 := fun {σ6 H6 Q} S6 hq => gone_ok (S6.unsuite okX) hN hi hl hq
              cases f with
              | ret u =>
                obtain ⟨v6, σ6, H6, S6, r6, q6⟩ := sp
                exact drop1 S6 fun u7 J7 => ⟨_, _, _, J7, r6, q6⟩
              | next =>
                obtain ⟨σ6, H6, S6, q6⟩ := sp
                exact drop1 S6 fun u7 J7 => ⟨_, _, J7, q6⟩
              | cont =>
                obtain ⟨σ6, H6, S6, q6⟩ := sp
                exact drop1 S6 fun u7 J7 => ⟨_, _, J7, q6⟩
              | brk =>
                obtain ⟨σ6, H6, S6, q6⟩ := sp
                exact drop1 S6 fun u7 J7 => ⟨_, _, J7, q6⟩
    exact each hh wish
  refine wpAny_mono (B1.run [] s σ H D (I.toTry _) hw) (fun f u1 sp => ?_) fun _ _ he => he
  cases f with
  | ret u =>
    obtain ⟨v, σ1, H1, I1, r, q⟩ := sp
    exact ⟨v, σ1, H1, I1.ofTry okX, r, q⟩
  | cont =>
    obtain ⟨σ1, H1, I1, q⟩ := sp
    exact ⟨σ1, H1, I1.ofTry okX, q⟩
  | brk =>
    obtain ⟨σ1, H1, I1, q⟩ := sp
    exact ⟨σ1, H1, I1.ofTry okX, q⟩
  | next =>
    obtain ⟨σ1, H1, I1, q⟩ := sp
    exact wpAny_execs_nil ⟨σ1, H1, I1.ofTry okX, q⟩
end

/-! ### an own error's __init__ : Base.__init__(self, text), Base an own class without an __init__ -/
/-- what is known of Base, at C -/
structure BaseC (K : PySem.W.Frag) (mg : Str → Option Value) (x : Str) (C : Addr) : Prop where
  g : mg x = some (.ref C)
  sp : PySem.W.specialIn K (.ref C) "__getattribute__" = some (some (.builtin "type.__getattribute__"))
  rd : PySem.W.readsIn K C (.type "type") = true
  vI : PySem.W.findCls K (.ref C) (.type "type") "__init__" = some (.val (.builtin "ValueError.__init__"))
section
variable {X : Cx} {e : Expr} {es : List Expr} {ta : TA} {p1 p2 pos : Pos} {C : Addr} {x : Str}
theorem pe_base {pl : Sem Bool} (T : BaseC X.K X.mg x C) (hg : Gl X x) (ha : PA X (e :: es) ta) (hx : (x == ("__debug__" : Str)) = false := by decide)
    (hc : eval (.Call (.Attribute (.Name x p1) "__init__" p2) (e :: es) [] pos) X.env = (do
      let o ← eval (.Name x p1) X.env
      standAt p2.atName
      let (f, first) ← holding [o] (getMethod o "__init__" pl)
      callWith pos f first (backTo pos (starEach (e :: es) X.env)) (backToKw pos (keywordEach [] X.env))) := by rfl)
    (he : starEach (e :: es) X.env = (false, eval e X.env) :: starEach es X.env := by rfl) (hpl : (backTo pos (starEach es X.env)).any (·.1) = false := by rfl) :
    PE X (.Call (.Attribute (.Name x p1) "__init__" p2) (e :: es) [] pos) (tVeI X.K ta) := by
  constructor
  intro pins s σ H Q I h
  refine PySem.W.methodCall_KW (ld_glob I hg T.g ?_ hx) hc
  refine PySem.W.method_cls I.kIn T.sp (PySem.W.cls_value I.kIn T.rd T.vI (by decide +kernel) ?_)
  show wpAny _ _ (callWith pos (Value.builtin "ValueError.__init__") [] (backTo pos (starEach (e :: es) X.env)) []) _ _ _
  refine PyProof.Rows.callWith_method1 (thn (ha.run pos pins _ σ H _ (I.tok _) h) fun us u1 hu => ?_) he hpl
  obtain ⟨vs, H1, I1, r1, a, C1, ws, rfl, hl, T1, ea, q⟩ := hu
  cases r1 with
  | @cons _ u0 _ ur ra rw1 =>
    cases (show u0 = Value.ref a from ra)
    refine oinit_ok T1 I1 ea ?_ fun s' I2 => ⟨.non, H1, I2, rfl, q⟩
    rw [← Paired.length rw1]
    exact Nat.le_trans hl (by decide)
end
/-- the promise of such an __init__: the fields in the order of their making, the newest ahead -/
def spIni (C : Addr) (fn : List Str) (ok : List V → Prop) : Sp := fun vs H Q _ => ∃ (a : Addr) (ys : List V), vs = .ref a :: ys ∧ ys.length = fn.length ∧ ok ys ∧ H a = some (exo a C none) ∧
  ∀ d H2, (∀ b o, H b = some o → b ≠ a → H2 b = some o) → H d = none → d ≠ a → H2 a = some (exo a C (some d)) → H2 d = some (exd d (fn.zip ys.reverse)) → Q .non H2
section
variable {K : PySem.W.Frag} {C a : Addr} {te : TE} {f f1 f2 : Str} {x y : V} {H : Hp} {Q : VK} {ok : List V → Prop}
/-- self.f = x alone; te: the text -/
theorem ini1 (T : OexC K C) (hno : PySem.W.findIn K (.ref C) f = some none) (h : spIni C [f] ok [.ref a, x] H Q (fun _ _ _ => False)) (ht : ok [x] → ∀ σ : Sl, σ = [some (.ref a), some x] → ∀ H' (R : VK), (∀ z, R (.str z) H') → te σ H' R) :
    tSeq (tDrop (tVeI K (tCons (tVar 0) (tCons te tNil)))) (tOst K f (tVar 0) (tVar 1)) (ends Q) [some (.ref a), some x] H := by
  obtain ⟨a', ys, e, hl, ho, ha, k⟩ := h
  cases e
  refine ⟨.ref a, rfl, ht ho _ rfl H _ fun z => ⟨a, C, _, rfl, (by show 1 ≤ 1000; decide), T, ha, ?_⟩⟩
  refine ⟨x, rfl, .ref a, rfl, a, C, rfl, T, hno, .inl ⟨ha, fun dx hd ne => ?_⟩⟩
  refine k dx _ (fun b o hb nb => ?_) hd ne upd_same ?_
  · rw [upd_ne nb, upd_ne (ne_of_none hb hd)]
    exact hb
  · rw [upd_ne ne, upd_same]
    rfl
theorem ini2 (T : OexC K C) (hn1 : PySem.W.findIn K (.ref C) f1 = some none) (hn2 : PySem.W.findIn K (.ref C) f2 = some none) (h : spIni C [f2, f1] ok [.ref a, x, y] H Q (fun _ _ _ => False))
    (ht : ok [x, y] → ∀ σ : Sl, σ = [some (.ref a), some x, some y] → ∀ H' (R : VK), (∀ z, R (.str z) H') → te σ H' R) :
    tSeq (tDrop (tVeI K (tCons (tVar 0) (tCons te tNil)))) (tSeq (tOst K f1 (tVar 0) (tVar 1)) (tOst K f2 (tVar 0) (tVar 2))) (ends Q) [some (.ref a), some x, some y] H := by
  obtain ⟨a', ys, e, hl, ho, ha, k⟩ := h
  cases e
  refine ⟨.ref a, rfl, ht ho _ rfl H _ fun z => ⟨a, C, _, rfl, (by show 1 ≤ 1000; decide), T, ha, ?_⟩⟩
  refine ⟨x, rfl, .ref a, rfl, a, C, rfl, T, hn1, .inl ⟨ha, fun dx hd ne => ?_⟩⟩
  refine ⟨y, rfl, .ref a, rfl, a, C, rfl, T, hn2, .inr ⟨dx, _, upd_same, by rw [upd_ne ne, upd_same], (by show 1 ≤ 900; decide), ?_⟩⟩
  refine k dx _ (fun b o hb nb => ?_) hd ne ?_ upd_same
  · rw [upd_ne (ne_of_none hb hd), upd_ne nb, upd_ne (ne_of_none hb hd)]
    exact hb
  · rw [upd_ne ne.symm, upd_same]
theorem tfmt_int {σ : Sl} {i : Int} {n : Nat} {R : VK} (h : σ[n]? = some (some (.int i))) (hi : i.natAbs.log2 < 1920) (k : ∀ z, R (.str z) H) : tFmt (tVar n) σ H R := ⟨_, h, .inr ⟨i, rfl, hi, k _⟩⟩
theorem tfmt_str {σ : Sl} {i : Str} {n : Nat} {R : VK} (h : σ[n]? = some (some (.str i))) (hi : i.length < tooLong) (k : ∀ z, R (.str z) H) : tFmt (tVar n) σ H R := ⟨_, h, .inl ⟨i, rfl, long_ok hi, k _⟩⟩
end
section
variable {S : Type} {J : Jc S} {α β γ δ τ : Type} {ρ esc : Env} {σ : Sl} {G G' H : Hp} {L : Led} {T : Ends → Prop} {E : Ends}
/-! ### raise -/
theorem sv_raise {c : Nat} {ta : TA} {ma : MS S (List D)} {ok : List V → Prop} {okD : List D → Bool} {fin : β → Fin} (h : EvA J ta ρ ma) (w : Wk ρ esc) (hok : ∀ G ys ds, RpAll J.Z G ys ds → okD ds = true → ds.length = (J.Z.fn c).length ∧ (J.Z.fn c).length ≤ 1000 ∧ ok ys) :
    Sv J T esc (fun _ σ H => tMkO (J.Z.cl c) (spIni (J.Z.cl c) (J.Z.fn c) ok) [] ta σ H fun cls d H' => J.X cls d σ H') ρ (bnd ma fun ds => if okD ds = true then rse c ds.reverse else stk) fin := fun σ G s H L o E _ q =>
  h.runS o w q fun ds vs G1 s1 H1 e1 o1 r q1 => by
    by_cases hd : okD ds = true
    · rw [if_pos hd] at q1
      obtain ⟨hl, hm, hk⟩ := hok G1 vs ds r hd
      have hv : vs.length = (J.Z.fn c).length := r.length.trans hl
      refine ⟨by rw [hv]; exact hm, fun a ha => ⟨a, vs, by rw [List.append_nil], hv, hk, upd_same, fun d H2 k2 hdn ne e2 e3 => ⟨rfl, d, _, e2, e3, ?_, ?_⟩⟩⟩
      · rw [upd_ne ne] at hdn
        exact hdn
      · rw [upd_ne ne] at hdn
        have keep : ∀ b x, H1 b = some x → upd (del H2 a) d (.xd ((J.Z.fn c).zip vs.reverse)) b = some x := fun b x hb => by
          have nb : b ≠ a := ne_of_none hb ha
          rw [upd_ne (ne_of_none hb hdn), del_ne nb]
          exact k2 b x (by rw [upd_ne nb]; exact hb) nb
        have sm : Same G1 (upd G1 d (.xd ((J.Z.fn c).zip vs.reverse))) := same_new (o1.same.free hdn)
        have o2 : Ok J.Z (J.lay s1) ρ (upd G1 d (.xd ((J.Z.fn c).zip vs.reverse))) σ L (upd (del H2 a) d (.xd ((J.Z.fn c).zip vs.reverse))) := by
          refine ⟨o1.1.mono sm, ?_, o1.2.nd, fun p hp => ?_⟩
          · intro b x hb
            by_cases e : b = d
            · subst e
              rw [upd_same] at hb ⊢
              exact hb
            · rw [upd_ne e] at hb
              exact keep b x (o1.same _ _ hb)
          · obtain ⟨h1, h2⟩ := o1.2.own p hp
            refine ⟨keep _ _ h1, ?_⟩
            rw [upd_ne (ne_of_none h1 hdn)]
            exact h2
        obtain ⟨L', o3⟩ := o2.weak w
        refine q1 σ d vs.reverse _ _ L' sm o3 upd_same (by rw [List.length_reverse, hv]) ?_
        have rev : ∀ {xs : List V} {es : List D}, RpAll J.Z G1 xs es → RpAll J.Z G1 xs.reverse es.reverse := fun {xs es} rr => by
          induction rr using RpAll.rec (motive_1 := fun _ _ _ => True) with
          | nil => exact .nil
          | cons h1 h2 _ ih =>
            rw [List.reverse_cons, List.reverse_cons]
            exact ih.append (.one h1)
          | _ => trivial
        exact (rev r).mono sm
    · rw [if_neg hd] at q1
      exact q1.elim

/-! ### try -/
/-- what is known of an error that is caught -/
def xF (Z : Wo) (dx : Addr) (c : Nat) (fs : List D) (G : Hp) : Prop := ∃ vs, G dx = some (.xd ((Z.fn c).zip vs)) ∧ (Z.fn c).length = vs.length ∧ RpAll Z G vs fs
theorem xF.mono {Z : Wo} {dx : Addr} {c : Nat} {fs : List D} (h : xF Z dx c fs G) (s : Same G G') : xF Z dx c fs G' := by
  obtain ⟨vs, h1, h2, h3⟩ := h
  exact ⟨vs, s _ _ h1, h2, h3.mono s⟩
def fld (fn : List Str) (fs : List D) (f : Str) : Option D := (fn.zip fs).lookup f
theorem zip_look {Z : Wo} {f : Str} {d : D} : ∀ {fn : List Str} {vs : List V} {fs : List D}, RpAll Z G vs fs → (fn.zip fs).lookup f = some d → ∃ v, (fn.zip vs).lookup f = some v ∧ Rp Z G v d
  | [], _, _, _, e => by
    rw [List.zip_nil_left] at e
    cases e
  | _ :: _, _, _, .nil, e => by
    rw [List.zip_nil_right] at e
    cases e
  | n :: fn, v :: vs, g :: fs, .cons h r, e => by
    rw [List.zip_cons_cons, List.lookup_cons] at e ⊢
    cases hf : f == n with
    | true =>
      rw [hf] at e
      dsimp only at e ⊢
      cases e
      exact ⟨v, rfl, h⟩
    | false =>
      rw [hf] at e
      exact zip_look r e
theorem ev_xf {i : Nat} {a dx : Addr} {c : Nat} {fs : List D} {f : Str} (hi : ρ[i]? = some (.A a (xF J.Z dx c fs))) : Ev J (tXf a (.ref (J.Z.cl c)) (some dx) (J.Z.cl c) f (tVar i)) ρ (lft (fld (J.Z.fn c) fs f)) := fun σ G s H L o Q q =>
  Pst.lft q fun d hd q1 => by
    obtain ⟨h1, vs, h2, h3, h4⟩ := o.1.hand hi
    obtain ⟨v, h5, h6⟩ := zip_look h4 hd
    exact ⟨.ref a, h1, rfl, rfl, dx, _, v, rfl, o.same _ _ h2, h5, q1 v G H (Same.refl _) o h6⟩
/-- nothing is raised within -/
abbrev Jc.quiet (J : Jc S) : Jc S := { J with X := fun _ _ _ _ => False }
abbrev Jc.to (J : Jc S) (X : WX) : Jc S := { J with X := X }
def Rs.cat (r : Rs S β) (f : Nat → List D → S → Rs S β) : Rs S β := match r with
  | .ex c fs s => f c fs s
  | r => r
def pick (o : Option (List D → MS S β)) (c : Nat) (fs : List D) : MS S β := match o with
  | some h => nex (h fs)
  | none => rse c fs
def hsM (n : Nat) (hs : List (Nat × (List D → MS S β))) (c : Nat) (fs : List D) : MS S β := if c < n then pick (hs.lookup c) c fs else stk
def tryM (n : Nat) (m : MS S β) (hs : List (Nat × (List D → MS S β))) : MS S β := fun s => (m s).cat (hsM n hs)
/-- the clauses, one by one -/
inductive HsS (J : Jc S) (T : Ends → Prop) (esc escB : Env) (fin : β → Fin) : List Cls3 → List (Nat × (List D → MS S β)) → Prop
  | nil : HsS J T esc escB fin [] []
  | name {c i : Nat} {ts : Addr → Value → Option Addr → TS} {h : List D → MS S β} {l : List Cls3} {hs : List (Nat × (List D → MS S β))}
      (hu : ∀ a dx fs, Sv J.quiet T (escB.set i (.A a (xF J.Z dx c fs))) (ts a (.ref (J.Z.cl c)) (some dx)) (escB.set i (.A a (xF J.Z dx c fs))) (h fs) fin) (r : HsS J T esc escB fin l hs) : HsS J T esc escB fin ((.ref (J.Z.cl c), some i, ts) :: l) ((c, h) :: hs)
  | bare {c : Nat} {ts : Addr → Value → Option Addr → TS} {h : List D → MS S β} {l : List Cls3} {hs : List (Nat × (List D → MS S β))}
      (hu : ∀ a dx fs, Sv J.quiet T escB (ts a (.ref (J.Z.cl c)) (some dx)) escB (h fs) fin) (r : HsS J T esc escB fin l hs) : HsS J T esc escB fin ((.ref (J.Z.cl c), none, ts) :: l) ((c, h) :: hs)
theorem Cells.setA {Z : Wo} {a : Addr} {F : Hp → Prop} (r : ∀ G', Same G G' → F G') : ∀ {e : Env} {σ : Sl} {L : Led} (i : Nat), Cells Z G e σ L → ∃ L', List.Sublist L' L ∧ Cells Z G (e.set i (.A a F)) (σ.set i (some (.ref a))) L'
  | _, _, _, _, .nil => ⟨_, List.Sublist.refl _, .nil⟩
  | _, _, _, 0, .U c => ⟨_, List.Sublist.refl _, .A r c⟩
  | _, _, _, 0, .P q c => ⟨_, List.Sublist.refl _, .A r c⟩
  | _, _, _, 0, .O q c => ⟨_, List.sublist_cons_self _ _, .A r c⟩
  | _, _, _, 0, .A f c => ⟨_, List.Sublist.refl _, .A r c⟩
  | _, _, _, 0, .Q q c => ⟨_, (List.sublist_append_right _ _).cons _, .A r c⟩
  | _, _, _, i + 1, .Q q c => by
    obtain ⟨L', s, c'⟩ := c.setA r i
    exact ⟨_, ((List.Sublist.refl _).append s).cons₂ _, .Q q c'⟩
  | _, _, _, i + 1, .U c => by
    obtain ⟨L', s, c'⟩ := c.setA r i
    exact ⟨L', s, .U c'⟩
  | _, _, _, i + 1, .P q c => by
    obtain ⟨L', s, c'⟩ := c.setA r i
    exact ⟨L', s, .P q c'⟩
  | _, _, _, i + 1, .O q c => by
    obtain ⟨L', s, c'⟩ := c.setA r i
    exact ⟨_, s.cons₂ _, .O q c'⟩
  | _, _, _, i + 1, .A f c => by
    obtain ⟨L', s, c'⟩ := c.setA r i
    exact ⟨L', s, .A f c'⟩
theorem Ok.setA {B : Led} {i : Nat} {a : Addr} {F : Hp → Prop} (r : ∀ G', Same G G' → F G') (o : Ok J.Z B ρ G σ L H) : ∃ L', Ok J.Z B (ρ.set i (.A a F)) G (σ.set i (some (.ref a))) L' H := by
  obtain ⟨L', s, c'⟩ := o.1.setA (a := a) r i
  exact ⟨L', c', o.2.sub (List.Sublist.append s (List.Sublist.refl _))⟩
/-- the ends of a clause: what it hands back; other ends with its name let go -/
theorem Fo.gone {s : S} {i : Option Nat} {d : D} (h : Fo J G E s (.rt d)) : Fo J.quiet G (gone E i) s (.rt d) := by
  cases i <;> exact h
theorem sv_try {K : PySem.W.Frag} {n : Nat} {tb : WX → TS} {l : List Cls3} {hs : List (Nat × (List D → MS S D))} {m : MS S D} {escB : Env} (hT : ∀ E i, T E → T (gone E i)) (hx : ∀ c c', c < n → c' < n → PySem.W.exmOne K (.ref (J.Z.cl c)) (.ref (J.Z.cl c')) = some (decide (c = c')))
    (hn : ∀ p ∈ hs, p.1 < n) (we : Wk escB esc) (hb : ∀ X, Sv (J.to X) T escB (tb X) ρ m Fin.rt) (hh : HsS J T esc escB Fin.rt l hs) : Sv J T esc (fun E σ H => tb (wHs K J.X E l) E σ H) ρ (tryM n m hs) Fin.rt := fun σ G s H L o E ht q => by
  refine hb (wHs K J.X E l) σ G s H L o E ht ?_
  have q1 : Pss J esc G E Fin.rt ((m s).cat (hsM n hs)) := q
  cases e : m s with
  | stuck =>
    rw [e] at q1
    exact q1
  | ok d s' =>
    rw [e] at q1
    exact q1
  | ex c fs s' =>
    rw [e] at q1
    have q2 : Pss J esc G E Fin.rt (hsM n hs c fs s') := q1
    unfold hsM at q2
    by_cases hc : c < n
    · rw [if_pos hc] at q2
      intro σ1 dx vs G1 H1 L1 sm o1 hd hl hr
      have known : xF J.Z dx c fs G1 := ⟨vs, hd, hl, hr⟩
      have ran : ∀ {h : List D → MS S D} {i : Option Nat}, Pss J esc G E Fin.rt (pick (some h) c fs s') → ∀ esc', Pss J.quiet esc' G1 (gone E i) Fin.rt (h fs s') := fun {h i} q3 esc' => by
        have q4 : Pss J esc G E Fin.rt (nex (h fs) s') := q3
        unfold nex at q4
        cases e3 : h fs s' with
        | stuck => rw [e3] at q4; exact q4
        | ex _ _ _ => rw [e3] at q4; exact q4.elim
        | ok d s2 => rw [e3] at q4; exact Fo.gone (Fo.mono sm q4)
      have each : ∀ {l' : List Cls3} {hs' : List (Nat × (List D → MS S D))}, HsS J T esc escB Fin.rt l' hs' → (∀ p ∈ hs', p.1 < n) → Pss J esc G E Fin.rt (pick (hs'.lookup c) c fs s') → wHs K J.X E l' (.ref (J.Z.cl c)) (some dx) σ1 H1 := by
        intro l' hs' hk
        induction hk with
        | nil =>
          intro _ q3
          obtain ⟨L2, o2⟩ := o1.weak we
          exact q3 σ1 dx vs G1 H1 L2 sm o2 hd hl hr
        | @name c' i ts h l2 hs2 hu r ih =>
          intro hn2 q3
          have hc' : c' < n := hn2 (c', h) (by simp)
          refine ⟨_, hx c c' hc hc', fun hb a ha => ?_, fun hb => ?_⟩
          · have ec : c = c' := of_decide_eq_true hb
            subst ec
            rw [List.lookup_cons_self] at q3
            obtain ⟨L2, o2⟩ := o1.setA (i := i) (a := a) (F := xF J.Z dx c fs) fun G' s' => xF.mono known s'
            exact hu a dx fs _ G1 s' H1 L2 o2 _ (hT E (some i) ht) (ran q3 _)
          · have ec : c ≠ c' := of_decide_eq_false hb
            rw [List.lookup_cons, beq_false_of_ne ec] at q3
            exact ih (fun p hp => hn2 p (by simp [hp])) q3
        | @bare c' ts h l2 hs2 hu r ih =>
          intro hn2 q3
          have hc' : c' < n := hn2 (c', h) (by simp)
          refine ⟨_, hx c c' hc hc', fun hb a ha => ?_, fun hb => ?_⟩
          · have ec : c = c' := of_decide_eq_true hb
            subst ec
            rw [List.lookup_cons_self] at q3
            exact hu a dx fs _ G1 s' H1 L1 o1 _ (hT E none ht) (ran q3 _)
          · have ec : c ≠ c' := of_decide_eq_false hb
            rw [List.lookup_cons, beq_false_of_ne ec] at q3
            exact ih (fun p hp => hn2 p (by simp [hp])) q3
      exact each hh hn q2
    · rw [if_neg hc] at q2
      exact q2.elim
theorem ta_gone : ∀ E i, Ta E → Ta (gone E i) := fun _ _ _ => trivial
theorem tl_gone : ∀ E i, Tl E → Tl (gone E i) := fun E i h => by
  cases i with
  | none => exact h
  | some i => exact fun σ H q => h (σ.set i none) H q
end
end Dm

set_option Elab.async false
set_option linter.all false
set_option maxRecDepth 100000
set_option maxHeartbeats 2000000
namespace Dm
open PySem PySem.Spec PyProof.Rows L2

/-! ### the hand: what is drawn from -/
structure Hd where
  pos : Int
  rest : Int
  total : Int
def hHO (c : Addr) (h : Hd) : HO := .lst [.ref c, .int h.pos, .int h.rest, .int h.total]
def hF (c : Addr) (cells : List Int) (G : Hp) : Prop := G c = some (.lst (cells.map V.int))
/-- the hand stands at p, its cells at c -/
def HandJ (J : Jc Hd) (p c : Addr) : Prop := ∃ L1 L2, ∀ h, J.lay h = L1 ++ (p, hHO c h) :: L2
theorem HandJ.add {J : Jc Hd} {p c q : Addr} {xs : List V} (h : HandJ J p c) : HandJ (J.add q xs) p c := by
  obtain ⟨L1, L2, e⟩ := h
  exact ⟨(q, .lst xs) :: L1, L2, fun hd => by
    show (q, HO.lst xs) :: J.lay hd = _
    rw [e]
    rfl⟩
theorem HandJ.to {J : Jc Hd} {p c : Addr} {X : WX} (h : HandJ J p c) : HandJ (J.to X) p c := h
theorem rp_ints {Z : Wo} {G : Hp} : ∀ ns : List Int, RpAll Z G (ns.map V.int) (ns.map D.int)
  | [] => .nil
  | n :: ns => .cons (.int n) (rp_ints ns)
def spD (Z : Wo) (m : List Int → List D → MS Hd D) : Sp := fun vs H Q E => ∃ (p c : Addr) (cells : List Int) (L0 : Led) (G : Hp) (h : Hd) (vs' : List V) (ds : List D), vs = .ref p :: vs' ∧ hF c cells G ∧ Wd G ((p, hHO c h) :: L0) H ∧ RpAll Z G vs' ds ∧
  EndP Z (fun h => (p, hHO c h) :: L0) G Q E (m cells ds h)
theorem spD_len {Z : Wo} {m : List Int → List D → MS Hd D} {n : Nat} (hm : ∀ cs ds, ds.length + 1 ≠ n → m cs ds = stk) {vs : List V} {H : Hp} {Q : VK} {E : XK} (h : spD Z m vs H Q E) : vs.length = n := by
  obtain ⟨p, c, cells, L0, G, hd, vs', ds, rfl, hf, w, r, e⟩ := h
  by_cases hl : ds.length + 1 = n
  · rw [List.length_cons, r.length, hl]
  · rw [hm cells ds hl] at e
    exact e.elim
section
variable {J : Jc Hd} {ρ esc : Env} {σ : Sl} {G G' H : Hp} {L : Led} {p c : Addr} {cells : List Int} {i : Nat}
theorem ev_callD {m : List Int → List D → MS Hd D} {dvs : List V} {dds : List D} {ta : TA} {ma : MS Hd (List D)} (hJ : HandJ J p c) (hi : ρ[i]? = some (.A p (hF c cells))) (h : EvA J ta ρ ma) (hd : ∀ G, RpAll J.Z G dvs dds := by intro _; repeat constructor) :
    Ev J (tCallSD (spD J.Z m) dvs (WE J.X) (tCons (tVar i) ta)) ρ (bnd ma fun ds => m cells (ds ++ dds)) := fun σ G s H L o Q q => by
  obtain ⟨L1, L2, el⟩ := hJ
  refine ⟨.ref p, (o.1.hand hi).1, h.run o q fun ds xs G1 s1 H1 e1 o1 r q1 => ?_⟩
  have pm : ∀ h, ((p, hHO c h) :: (L ++ (L1 ++ L2))).Perm (L ++ J.lay h) := fun h => by
    rw [el h]
    have := (List.perm_middle (a := (p, hHO c h)) (l₁ := L ++ L1) (l₂ := L2)).symm
    rw [List.append_assoc, List.append_assoc] at this
    exact this
  refine ⟨p, c, cells, L ++ (L1 ++ L2), G1, s1, xs ++ dvs, ds ++ dds, rfl, (o1.1.hand hi).2, o1.2.perm (pm s1), RpAll.append r (hd G1), ?_⟩
  cases e : m cells (ds ++ dds) s1 with
  | stuck =>
    rw [e] at q1
    exact q1
  | ex k fs s2 =>
    rw [e] at q1
    exact fun dx vs G' H' sm w a b rr => q1 dx vs G' H' sm ⟨o1.1.mono sm, w.perm (pm s2).symm⟩ a b rr
  | ok d s2 =>
    rw [e] at q1
    exact fun v G' H' sm w rr => q1 v G' H' sm ⟨o1.1.mono sm, w.perm (pm s2).symm⟩ rr
theorem hand_at {s : Hd} (hJ : HandJ J p c) (o : Ok J.Z (J.lay s) ρ G σ L H) : H p = some (hHO c s) := by
  obtain ⟨L1, L2, el⟩ := hJ
  exact (o.2.own (p, hHO c s) (by rw [el]; simp)).1
/-- hand[0], hand[1] .. -/
def hget (cells : List Int) (k : Nat) : MS Hd D := fun h => match k with
  | 0 => .ok (.lst (cells.map D.int)) h
  | 1 => .ok (.int h.pos) h
  | 2 => .ok (.int h.rest) h
  | 3 => .ok (.int h.total) h
  | _ => .stuck
theorem ev_hget {K : PySem.W.Frag} (k : Nat) (hJ : HandJ J p c) (hi : ρ[i]? = some (.A p (hF c cells))) (hk : k < 4 := by decide) : Ev J (tOp (rIx K) (tVar i) (tC (.int (k : Int)))) ρ (hget cells k) := fun σ G s H L o Q q => by
  have hp := hand_at hJ o
  obtain ⟨h1, h2⟩ := o.1.hand hi
  match k, hk with
  | 0, _ => exact ⟨.ref p, h1, .inl ⟨p, _, 0, .ref c, rfl, rfl, sq_l hp, rfl, q _ G H (Same.refl _) o (.lst h2 (rp_ints cells))⟩⟩
  | 1, _ => exact ⟨.ref p, h1, .inl ⟨p, _, 1, .int s.pos, rfl, rfl, sq_l hp, rfl, q _ G H (Same.refl _) o (.int _)⟩⟩
  | 2, _ => exact ⟨.ref p, h1, .inl ⟨p, _, 2, .int s.rest, rfl, rfl, sq_l hp, rfl, q _ G H (Same.refl _) o (.int _)⟩⟩
  | 3, _ => exact ⟨.ref p, h1, .inl ⟨p, _, 3, .int s.total, rfl, rfl, sq_l hp, rfl, q _ G H (Same.refl _) o (.int _)⟩⟩
def hput (k : Nat) (d : D) : MS Hd Unit := fun h => match k, d with
  | 1, .int i => .ok () { h with pos := i }
  | 2, .int i => .ok () { h with rest := i }
  | 3, .int i => .ok () { h with total := i }
  | _, _ => .stuck
theorem hand_put {s s' : Hd} {k : Nat} {z : Int} {v : V} (hJ : HandJ J p c) (o : Ok J.Z (J.lay s) ρ G σ L H) (e : hput k (.int z) s = .ok () s') (hv : v = .int z) : ∃ xs, H p = some (.lst xs) ∧ ixN xs.length (k : Int) = some k ∧ Ok J.Z (J.lay s') ρ G σ L (upd H p (.lst (xs.set k v))) := by
  have hp := hand_at hJ o
  have hJ' := hJ
  obtain ⟨L1, L2, el⟩ := hJ'
  subst hv
  have main : ∀ ys : List V, hHO c s' = .lst ys → Ok J.Z (J.lay s') ρ G σ L (upd H p (.lst ys)) := fun ys hy => by
    refine ⟨o.1, ?_⟩
    have w := o.2
    rw [el s, ← List.append_assoc] at w
    rw [el s', ← List.append_assoc, hy]
    exact w.put
  match k, e with
  | 1, e =>
    cases e
    exact ⟨_, hp, rfl, main _ rfl⟩
  | 2, e =>
    cases e
    exact ⟨_, hp, rfl, main _ rfl⟩
  | 3, e =>
    cases e
    exact ⟨_, hp, rfl, main _ rfl⟩
theorem sv_hput {te : TE} {m : MS Hd D} (k : Nat) (hJ : HandJ J p c) (hi : ρ[i]? = some (.A p (hF c cells))) (h : Ev J te ρ m) (w : Wk ρ esc) : Sv J Ta esc (tAsg te (gSub (tVar i) (tC (.int (k : Int))) rSetL)) ρ (bnd m fun d => hput k d) (fun _ => .nx ρ) := fun σ G s H L o E _ q =>
  h.runS o w q fun d v G1 s1 H1 e1 o1 r q1 => by
    refine ⟨.ref p, (o1.1.hand hi).1, ?_⟩
    cases d with
    | int z =>
      cases e : hput k (.int z) s1 with
      | stuck =>
        rw [e] at q1
        exact q1.elim
      | ex _ _ _ =>
        unfold hput at e
        split at e <;> cases e
      | ok u s2 =>
        rw [e] at q1
        obtain ⟨xs, h1, h2, h3⟩ := hand_put hJ o1 e (rX.int (J := J) (ρ := ρ) (σ := σ) (.inl r))
        exact ⟨p, xs, k, k, rfl, rfl, h1, h2, q1 σ G1 _ L (Same.refl _) h3⟩
    | _ =>
      exfalso
      unfold Pss hput at q1
      match k, q1 with
      | 0, q1 => exact q1
      | 1, q1 => exact q1
      | 2, q1 => exact q1
      | 3, q1 => exact q1
      | k + 4, q1 => exact q1
end
/-- a def's body keeps its promise, the hand ahead -/
theorem bodyD_ok {J : Jc Hd} {esc ρ : Env} {σ : Sl} {G H : Hp} {L : Led} {t : TS} {m : MS Hd D} {Q : VK} {X : XK} {s : Hd} (sv : Sv J Tl esc t ρ m Fin.rt) (o : Ok J.Z (J.lay s) ρ G σ L H) (hX : ∀ cls d σ H, X cls d H → J.X cls d σ H) (e : EndP J.Z J.lay G Q X (m s)) : t (ends Q) σ H := body_ok sv o hX e
theorem cells_hand {Z : Wo} {G : Hp} {N : List Str} {p c : Addr} {cells : List Int} {vs : List V} {ds : List D} {n : Nat} (hf : hF c cells G) (r : RpAll Z G vs ds) (h : N.length = ds.length + 1 + n) : Cells Z G (.A p (hF c cells) :: startE ds n) (L2.start N (.ref p :: vs)) [] := by
  unfold startE L2.start
  have e : N.length - (V.ref p :: vs).length = n := by
    rw [List.length_cons, r.length, h]
    omega
  rw [e]
  exact .A (fun G' s => s _ _ hf) (cells_more (cells_none n) r)

/-! ### the hand is made -/
def spHand (K : PySem.W.Frag) : Sp := fun vs H Q _ => ∃ (a : Addr) (ns : List Int), vs = [.ref a] ∧ SqL K H a (ns.map V.int) ∧ ns.length ≤ 63 ∧
  ∀ p c H' tot, c ≠ p → H' p = some (hHO c ⟨0, 0, tot⟩) → H' c = some (.lst ((ns.map fun n => if n < 0 then -n else n).map V.int)) → Q (.ref p) H'
def spLaw (K : PySem.W.Frag) : Sp := fun vs H Q _ => ∃ (a : Addr) (ns : List Int), vs = [.ref a] ∧ SqL K H a (ns.map V.int) ∧ ns.length ≤ 63 ∧ ∀ H', Q (.bl true) H'
/-- the law: the hand first, then what m says of it -/
theorem law_ok {K : PySem.W.Frag} {Z : Wo} {X : WX} {t : TS} {n i : Nat} {H : Hp} {vs : List V} {Q : VK} {E : XK} {N : List Str} {m : List Int → MS Hd D} (h : spLaw K vs H Q E) (hN : N.length = n + 1) (hi : i < n + 1)
    (sv : ∀ p c cells, Sv ⟨Z, fun h => [(p, hHO c h)], X⟩ Tl (List.replicate (n + 1) .U) t ((List.replicate (n + 1) .U).set i (.A p (hF c cells))) (m cells) Fin.rt)
    (hm : ∀ cells tot, cells.length ≤ 63 → ∃ s, m cells ⟨0, 0, tot⟩ = .ok (.bl true) s) :
    tSeq (tAsg (tCallSD (spHand K) [] (WE X) (tCons (tVar 0) tNil)) (gName i)) t (ends Q) (L2.start N vs) H := by
  obtain ⟨a, ns, rfl, hs, hl, q⟩ := h
  have es : L2.start N [.ref a] = some (.ref a) :: List.replicate n none := by
    unfold L2.start
    rw [hN]
    rfl
  rw [es]
  refine ⟨.ref a, rfl, a, ns, rfl, hs, hl, fun p c H' tot ne h1 h2 => ?_⟩
  obtain ⟨s, hm'⟩ := hm (ns.map fun n => if n < 0 then -n else n) tot (by rw [List.length_map]; exact hl)
  show t (ends Q) ((some (.ref a) :: List.replicate n none).set i (some (.ref p))) H'
  have base : Cells Z (upd (fun _ => none) c (.lst ((ns.map fun n => if n < 0 then -n else n).map V.int))) (List.replicate (n + 1) .U) (some (.ref a) :: List.replicate n none) [] := .U (cells_none n)
  obtain ⟨L', sb, c1⟩ := base.setA (a := p) (F := hF c (ns.map fun n => if n < 0 then -n else n)) (fun G' s => s _ _ upd_same) i
  have eL : L' = [] := List.sublist_nil.mp sb
  subst eL
  refine body_ok (J := ⟨Z, fun h => [(p, hHO c h)], X⟩) (s := ⟨0, 0, tot⟩) (G := upd (fun _ => none) c (.lst ((ns.map fun n => if n < 0 then -n else n).map V.int))) (L := []) (X := fun _ _ _ => False) (sv p c _) ⟨c1, ?_, ?_, ?_⟩ (fun _ _ _ _ h => h.elim) ?_
  · intro b x hb
    by_cases e : b = c
    · subst e
      rw [upd_same] at hb
      cases hb
      exact h2
    · rw [upd_ne e] at hb
      cases hb
  · simp
  · intro q hq
    have e : q = (p, hHO c ⟨0, 0, tot⟩) := by simpa using hq
    subst e
    exact ⟨h1, by rw [upd_ne ne.symm]⟩
  · show EndP Z _ _ Q _ (m _ _)
    rw [hm']
    intro v G' H2 _ _ r
    cases r
    exact q H2

/-! ### calls with a keyword: the parameters behind the last written one have their defaults -/
section
variable {K : PySem.W.Frag} {x qual : Str} {params : Arguments} {body : List Stmt} {scope : Scope} {dvs : List V} {f : Addr} {fd : FuncData} {ps : List Str}
theorem kbind1 (F : FunD K x qual params body scope dvs [] f fd) (n : Nat) (ks : List Str) (g : {α : Type} → List α → List α → List α → List α) (hd : dvs ≠ [])
    (hrel : ∀ {vs ds zs : List V} {us its ws : List Value}, Vals vs us → Vals ds its → Vals zs ws → Vals (g vs ds zs) (g us its ws))
    (h : ∀ (q : Addr) (kV doc pm : Value) (an : Option Addr) (cdv ct : Value) (us its ws : List Value), us.length = n → its.length = dvs.length → ws.length = ks.length →
      ∃ k, bindArgs (PySem.W.fnOf x qual params body scope (.ref q) kV doc pm an cdv ct) ⟨us, ks.zip ws⟩ = seqItems? (.ref q) >>= k ∧ k (some its.toArray) = pure (ps.zip (g us its ws))) :
    ∃ its : List Value, KBn K fd ps n ks (fun us ws => g us its ws) (fun vs zs => g vs dvs zs) := by
  obtain ⟨oc, od, dV, kV, doc, pm, an, cdv, ct, osl, rfl, lk, hcd, hD, hK⟩ := F.ex
  rcases hD with ⟨e, _⟩ | ⟨_, q, o, its, m, rfl, l1, o1, r1⟩
  · exact (hd e).elim
  · refine ⟨its, fun s us ws X a b => ?_, fun ra rb => hrel ra r1 rb⟩
    obtain ⟨k, e1, e2⟩ := h q kV doc pm an cdv ct us its ws a r1.length.symm b
    refine BindsTo.of_looks fun M => ?_
    rw [e1]
    exact looks_items X l1 o1 (.of_pure e2)
end
section
variable {S : Type} {J : Jc S} {ρ esc : Env}
/-- f(a, .., k = b): gD tells the data of the parameters -/
theorem ev_callN {n k : Nat} {X : XK} {m : (S : Type) → List D → MS S D} {gV : List V → List V → List V} {gD : List D → List D → List D} {ta tk : TA} {ma mk : MS S (List D)} (h : EvA J ta ρ ma) (hk : EvA J tk ρ mk) (hX : ∀ cls d σ H, J.X cls d σ H → X cls d H)
    (hg : ∀ G vs ds zs es, RpAll J.Z G vs ds → RpAll J.Z G zs es → ds.length = n → es.length = k → RpAll J.Z G (gV vs zs) (gD ds es)) :
    Ev J (tCallN n k (spM J.Z m) gV X ta tk) ρ (bnd ma fun ds => bnd mk fun es => if ds.length = n ∧ es.length = k then m S (gD ds es) else stk) := fun σ G s H L o Q q =>
  h.run o q fun ds xs G1 s1 H1 e1 o1 r q1 => hk.run o1 q1 fun es zs G2 s2 H2 e2 o2 rz q2 => by
    by_cases hl : ds.length = n ∧ es.length = k
    · rw [if_pos hl] at q2
      have r2 := RpAll.mono e2 r
      refine ⟨r2.length.trans hl.1, RpAll.length rz |>.trans hl.2, S, fun s => L ++ J.lay s, G2, s2, gD ds es, o2.2, hg G2 xs ds zs es r2 rz hl.1 hl.2, ?_⟩
      cases e : m S (gD ds es) s2 with
      | stuck =>
        rw [e] at q2
        exact q2
      | ex c fs s3 =>
        rw [e] at q2
        exact fun dx vs G' H' sm w a b rr => hX _ _ _ _ (q2 dx vs G' H' sm ⟨o2.1.mono sm, w⟩ a b rr)
      | ok d s3 =>
        rw [e] at q2
        exact fun v G' H' sm w rr => q2 v G' H' sm ⟨o2.1.mono sm, w⟩ rr
    · rw [if_neg hl] at q2
      exact q2.elim
end
end Dm

set_option Elab.async false
set_option linter.all false
set_option maxRecDepth 100000
set_option maxHeartbeats 2000000
/-! enumerate of a tuple, of a list or a tuple -/
namespace PySem
open AutoSeq1 (wpAny_loadPart')
abbrev titO (l : Addr) : Obj := { cls := .type "tuple_iterator", data := .fields #[.ref l, .int 0 0] }
abbrev enO (i : Addr) : Obj := { cls := .type "enumerate", data := .fields #[.none, .bool false, .ref i, rawInt 0, .none, .none] }
theorem meets_enT (l : Addr) (its : Array Value) (n : Nat) (dc : Option Addr) (sl : Array (Option Value)) :
    Meets (Builtin.«enumerate.__new__» ⟨[.type "enumerate", .ref l], []⟩) (fun _ R s => s.heap.get? l = some { cls := .type "tuple", dict := dc, data := .seq its n, slots := sl } ∧
      R (.ok (.ret (.ref (s.heap.push (titO l)).objs.size))) { s with heap := (s.heap.push (titO l)).push (enO s.heap.objs.size) }) :=
  .of_wp fun prog w A R s hyp => by
    obtain ⟨hp, gs, dr, tk, os⟩ := s
    obtain ⟨hl, fin⟩ := hyp
    have hsub := sub_enumerate
    have isT : Heap.IsTuple (Shared.heap ⟨hp, gs, dr, tk, os⟩) l its := ⟨_, hl, rfl, n, rfl⟩
    wp_walk using wpAny_loadPart' hl
    refine wpAny_stack_any fun st => wpAny_pure ?_
    split
    · rename_i c _ _ _ _ _
      cases (c == Value.type "enumerate") <;>
      · wp_walk using wpAny_loadPart' hl, wpAny_pyIter_tuple isT
        exact ⟨_, rfl, fin⟩
    · wp_walk using wpAny_loadPart' hl, wpAny_pyIter_tuple isT
      exact ⟨_, rfl, fin⟩
section
variable {prog : Program} {w : World} {A : Around} {E : Value → Shared → Prop} {s : Shared}
theorem call_enT {l : Addr} {its : Array Value} {Q : Value → Shared → Prop} (hT : s.heap.IsTuple l its)
    (k : ∀ g, IsEnum g (s.heap.objs.size + 1) s.heap.objs.size 0 .none → g.IsTupleIter s.heap.objs.size l 0 → (∀ b o, s.heap.get? b = some o → g.get? b = some o) → Q (.ref (s.heap.objs.size + 1)) { s with heap := g }) :
    wpAny (model prog w) A (call (.type "enumerate") [.ref l]) Q E s := by
  obtain ⟨⟨c, dc, dt, sl⟩, hl, hc, n, hd⟩ := hT
  cases (show c = .type "tuple" from hc)
  cases (show dt = .seq its n from hd)
  refine callType_new F.called_enumerate (by decide) (F.typeCall_enumerate_1 _) (F.newCall_enumerate_1 _) (fun o => F.args_object_init_2 o _) F.entry_enumerate_new (meets_enT l its n dc sl) ⟨hl, ?_⟩
  have z1 : (s.heap.push (titO l)).objs.size = s.heap.objs.size + 1 := Heap.size_push ..
  show _ ∧ _
  rw [z1]
  have e1 : IsEnum ((s.heap.push (titO l)).push (enO s.heap.objs.size)) (s.heap.objs.size + 1) s.heap.objs.size 0 .none := by
    have q := Heap.get?_push_size (s.heap.push (titO l)) (o := enO s.heap.objs.size) rfl
    rw [z1] at q
    exact q
  exact ⟨⟨_, e1, rfl⟩, k _ e1 ⟨_, Heap.get?_push_of_some _ (Heap.get?_push_size _ rfl), rfl, rfl⟩ fun b o x => Heap.get?_push_of_some _ (Heap.get?_push_of_some _ x)⟩
end
end PySem
namespace Dm
open PySem PySem.Spec PyProof.Rows L2
/-- the tuple at a, each item in a new pair -/
def Iet (K : PySem.W.Frag) (a : Addr) : It where
  go := fun i H => ∃ (xs : List V) (x : V), SqT K H a xs ∧ xs[i]? = some x
  yld := fun i H v H' => ∃ q x, v = .ref q ∧ H q = none ∧ H' = upd H q (.tup [.int (i : Nat), x]) ∧ ∀ xs, SqT K H a xs → xs[i]? = some x
  stop := fun i H => ∃ xs : List V, SqT K H a xs ∧ xs.length = i
theorem turn_et {P : Program} {w : World} {K : PySem.W.Frag} {elts : List Expr} {kk : Nat} {tpos : Pos} (a e it : Addr) :
    Turn P w K (.Tuple elts kk tpos) (Iet K a) [e, it] e (fun i h => (∃ old, IsEnum h e it ((i : Nat) : Int) old) ∧ h.IsTupleIter it a i ∧ e ≠ it ∧ a ≠ it ∧ e ≠ a) where
  mem := by simp
  obj := fun i h st b hb => by
    obtain ⟨⟨old, he⟩, ⟨o, ho, hc, hd⟩, _⟩ := st
    have two : b = e ∨ b = it := by simpa using hb
    rcases two with rfl | rfl
    · exact ⟨_, he, fun v q => nomatch q⟩
    · refine ⟨o, ho, fun v q => ?_⟩
      rw [hd] at q
      cases q
  keep := fun i h h' st k => by
    obtain ⟨⟨old, he⟩, hi, n1, n2⟩ := st
    exact ⟨⟨old, k e (by simp) _ he⟩, hi.at fun o q => k it (by simp) o q, n1, n2⟩
  item := by
    intro X hP hw hK hc i pins s σ H E I hf st hg
    subst hP hw hK
    obtain ⟨⟨old, he⟩, hit, n1, n2, n3⟩ := st
    obtain ⟨xs, x, hq, hx⟩ := hg
    obtain ⟨its, rv, p, hz⟩ := I.tuple hq
    obtain ⟨u, hu, ru⟩ := rv.get hx
    have tp : s.heap.IsTuple a its.toArray := p
    have lt_e : e < s.heap.objs.size := Heap.lt_size he
    have lt_i : it < s.heap.objs.size := by
      obtain ⟨_, q, _⟩ := hit
      exact Heap.lt_size q
    have hlt : i < its.toArray.size := by
      have := (List.getElem?_eq_some_iff.mp hu).1
      simpa using this
    have hA : X.A.in1.handled = none := I.ok.hd hc
    refine wpAny_pyNext_enum_itemD (Draws.tuple hA it a n2 its.toArray) he ⟨hit, tp⟩ hlt n1 (by simp [n1, n3]) fun y g tk hy ho sg hT hsz keep => ?_
    have ey : y = u := by
      have h2 : its.toArray[i]? = some u := by simpa using hu
      exact Option.some.inj (hy.symm.trans h2)
    subst ey
    refine ⟨_, rfl, wpAny_letOwnedTupleGo_enum (s := { s with heap := g, toks := tk + 1 }) ho fun g2 he2 sb => ?_⟩
    have hT2 : g2.get? s.heap.objs.size = some { cls := .type "tuple", data := .seq #[.int i tk, y] } := (sb.2 _ (Nat.ne_of_gt lt_e)).trans hT
    have pair : ObjOk X.prog X.w (upd H s.heap.objs.size (.tup [.int (i : Nat), x])) g2 s.heap.objs.size (.tup [.int (i : Nat), x]) := by
      refine ⟨by show 2 ≤ sizeLine; decide, [.int i tk, y], .cons ⟨_, rfl⟩ (.cons ru .nil), ?_⟩
      exact ⟨_, hT2, rfl, _, rfl⟩
    have I1 : Inv X pins σ (upd H s.heap.objs.size (.tup [.int (i : Nat), x])) { s with heap := g2, toks := tk + 1 } := by
      refine I.turnedNew (ch := [e, it]) (fun b ob hb q => ?_) hf (Nat.le_refl _) pair
      have be : b ≠ e := fun z => hb (by simp [z])
      have bi : b ≠ it := fun z => hb (by simp [z])
      exact (sb.2 b be).trans (keep b ob be bi q)
    refine ⟨.ref s.heap.objs.size, _, I1, rfl, ⟨_, x, rfl, I.hok.fresh (Nat.le_refl _), rfl, fun ys hy => by rw [I.tuple_inj hy hq]; exact hx⟩, ⟨⟨y, ?_⟩, sg.1.at fun o q => (sb.2 it (Ne.symm n1)).trans q, n1, n2, n3⟩, fun b hb => ?_⟩
    · have up : ((i + 1 : Nat) : Int) = (i : Int) + 1 := by omega
      rw [up]
      exact he2
    · have two : b = e ∨ b = it := by simpa using hb
      have lt_b : b < s.heap.objs.size := by
        rcases two with rfl | rfl
        · exact lt_e
        · exact lt_i
      rw [upd_ne (Nat.ne_of_lt lt_b)]
      exact (hf b hb).1
  done := by
    intro X hP hw hK hc i pins s σ H E I hf st hg
    subst hP hw hK
    obtain ⟨⟨old, he⟩, hit, n1, n2, n3⟩ := st
    obtain ⟨xs, hq, hx⟩ := hg
    obtain ⟨its, rv, p, hz⟩ := I.tuple hq
    have tp : s.heap.IsTuple a its.toArray := p
    obtain ⟨f0, f1, f2, f3, f4, f5⟩ := hf it (by simp)
    have sz : its.toArray.size = i := by
      rw [List.size_toArray, ← rv.length, hx]
    have hA : X.A.in1.handled = none := I.ok.hd hc
    refine wpAny_pyNext_enum_endD (Draws.tuple hA it a n2 its.toArray) he ⟨by rw [sz]; exact hit, tp⟩ fun g eb => ⟨rfl, ?_⟩
    exact I.turned (t' := s.toks) (fun b o hb q => eb b o hb q) f0 f1 f3 f4 f5
  self := fun A i s Q E st h => by
    obtain ⟨⟨_, he⟩, _⟩ := st
    exact wpAny_pyIter_enum he h
/-- enumerate(e): a list or a tuple -/
def iEn (K : PySem.W.Frag) (ta : TA) : TI := fun σ H R => ta σ H fun vs H1 => ∃ a, vs = [.ref a] ∧ (((∃ xs, SqL K H1 a xs) ∧ R (Ite K a) H1) ∨ ((∃ xs, SqT K H1 a xs) ∧ R (Iet K a) H1))
theorem pi_en {X : Cx} {e : Expr} {ta : TA} {p pos tpos : Pos} {elts : List Expr} {kk : Nat} (hg : Gl X "enumerate") (hm : X.mg "enumerate" = none) (ha : PA X [e] ta) (hs : starEach [e] X.env = [(false, eval e X.env)] := by rfl) :
    PI X (.Tuple elts kk tpos) (.Call (.Name "enumerate" p) [e] [] pos) (iEn X.K ta) := by
  constructor
  intro pins s σ H R I h
  refine Call_ (ld_blt I hg hm boot_enumerate (PyProof.Rows.callWith_type1 (thn (ha.run pos pins s σ H _ I h) fun us s1 hw => ?_) hs rfl))
  obtain ⟨vs, H1, I1, r1, a, rfl, q⟩ := hw
  cases r1 with
  | cons r rr =>
    cases rr
    cases r
    have fin : ∀ {J : It} {tn : Nat → Heap → Prop} {g : Heap} (T : Turn X.prog X.w X.K (.Tuple elts kk tpos) J [s1.heap.objs.size + 1, s1.heap.objs.size] (s1.heap.objs.size + 1) tn) (st : tn 0 g) (hk : ∀ b o, s1.heap.get? b = some o → g.get? b = some o) (q : R J H1),
        PIE X pins σ (.Tuple elts kk tpos) R (.ref (s1.heap.objs.size + 1)) { s1 with heap := g } := fun T st hk q => by
      refine ⟨_, _, _, _, H1, rfl, I1.kept (t' := s1.toks) hk, T, st, fun b hb => ?_, q⟩
      have two : b = s1.heap.objs.size + 1 ∨ b = s1.heap.objs.size := by simpa using hb
      have hle : s1.heap.objs.size ≤ b := by
        rcases two with z | z
        · rw [z]
          exact Nat.le_succ _
        · rw [z]
          exact Nat.le_refl _
      exact I1.fpOk hle (I1.hok.fresh hle)
    rcases q with ⟨⟨xs, hq⟩, q⟩ | ⟨⟨xs, hq⟩, q⟩
    · obtain ⟨its, rv, p', hz⟩ := I1.list hq
      exact call_enumerate_list p'.isList fun g he hit hsz hk => wpAny_pyIter_enum he (fin (turn_enum a _ _) ⟨⟨.none, he⟩, hit, Nat.succ_ne_self _⟩ hk q)
    · obtain ⟨its, rv, p', hz⟩ := I1.tuple hq
      have tp : s1.heap.IsTuple a its.toArray := p'
      have la : a < s1.heap.objs.size := by
        obtain ⟨o, e1, _⟩ := tp
        exact Heap.lt_size e1
      exact call_enT tp fun g he hit hk => wpAny_pyIter_enum he (fin (turn_et a _ _) ⟨⟨.none, he⟩, hit, Nat.succ_ne_self _, Nat.ne_of_lt la, Nat.ne_of_gt (Nat.lt_succ_of_lt la)⟩ hk q)
section
variable {S : Type} {J : Jc S} {ρ : Env} {σ : Sl} {G H : Hp} {L : Led}
def numb : Nat → List D → List D
  | _, [] => []
  | n, d :: ds => .tup [.int (n : Int), d] :: numb (n + 1) ds
theorem numb_len : ∀ (n : Nat) (ds : List D), (numb n ds).length = ds.length
  | _, [] => rfl
  | n, _ :: ds => congrArg Nat.succ (numb_len (n + 1) ds)
theorem numb_at : ∀ (n : Nat) (ds : List D) (i : Nat) (d : D), ds[i]? = some d → (numb n ds)[i]? = some (.tup [.int ((n + i : Nat) : Int), d])
  | _, [], _, _, h => by simp at h
  | n, _ :: ds, 0, d, h => by
    simp at h
    subst h
    rfl
  | n, _ :: ds, i + 1, d, h => by
    have := numb_at (n + 1) ds i d (by simpa using h)
    rw [show n + (i + 1) = n + 1 + i by omega]
    simpa [numb] using this
theorem wd_en {Z : Wo} {K : PySem.W.Frag} {a : Addr} {xs : List V} {ds : List D} (h : Rd G a (.lst xs)) (r : RpAll Z G xs ds) : Walk (Ite K a) (numb 0 ds).length (fun H => Same G H) (YD Z G (numb 0 ds)) := by
  rw [numb_len, ← r.length]
  refine walk_enum.mono (fun H s => .inl (h.imp (fun h => s _ _ h) fun ⟨o, h⟩ => ⟨o, s _ _ h⟩)) fun i H x H' hi s y => ?_
  obtain ⟨q, u, v, e1, e2, e3, e4, e5⟩ := y
  cases e4
  obtain ⟨d, hd, rd⟩ := r.at e5
  refine ⟨_, numb_at 0 ds i d hd, .inr ⟨q, _, v, _, d, e1, e2, e3, rfl, ?_, rd⟩⟩
  rw [Nat.zero_add]
  exact .int _
theorem wd_et {Z : Wo} {K : PySem.W.Frag} {a : Addr} {xs : List V} {ds : List D} (h : G a = some (.tup xs)) (r : RpAll Z G xs ds) : Walk (Iet K a) (numb 0 ds).length (fun H => Same G H) (YD Z G (numb 0 ds)) := by
  rw [numb_len, ← r.length]
  refine ⟨fun i H hi s => ⟨xs, xs[i], sq_t (s _ _ h), by simp [hi]⟩, fun H s => ⟨xs, sq_t (s _ _ h), rfl⟩, fun i H x H' hi s y => ?_⟩
  obtain ⟨q, v, e1, e2, e3, e5⟩ := y
  obtain ⟨d, hd, rd⟩ := r.at (e5 xs (sq_t (s _ _ h)))
  refine ⟨_, numb_at 0 ds i d hd, .inr ⟨q, _, v, _, d, e1, e2, e3, rfl, ?_, rd⟩⟩
  rw [Nat.zero_add]
  exact .int _
theorem ei_en {K : PySem.W.Frag} {te : TE} {m : MS S D} (h : Ev J te ρ m) : EvI J (iEn K (tCons te tNil)) ρ (bnd m fun d => lft ((items d).map (numb 0))) := fun σ G s H L o R q =>
  h.runI o q fun d x G1 s1 H1 e1 o1 r q1 => PstI.lft q1 fun es e q2 => by
    cases e3 : items d with
    | none => rw [e3] at e; cases e
    | some ds =>
      rw [e3] at e
      cases e
      obtain ⟨p, xs, h1, r2, h2⟩ := Rp.items r e3
      subst h1
      refine ⟨p, rfl, ?_⟩
      rcases h2 with h2 | h2
      · exact .inl ⟨⟨xs, .inl (h2.imp (fun h => o1.same _ _ h) fun ⟨o, h⟩ => ⟨o, o1.same _ _ h⟩)⟩, q2 _ G1 H1 (Same.refl _) o1 (wd_en h2 r2)⟩
      · exact .inr ⟨⟨xs, sq_t (o1.same _ _ h2)⟩, q2 _ G1 H1 (Same.refl _) o1 (wd_et h2 r2)⟩
end
end Dm

set_option Elab.async false
set_option linter.all false
set_option maxRecDepth 100000
set_option maxHeartbeats 2000000
namespace Dm
open PySem PySem.Spec PyProof.Rows L2
/-! what the generated texts want besides -/
theorem passN {X : Cx} {W : WX} (h : ∀ cls d σ H, W cls d σ H → False) (σ : Sl) : PassesAt (L2.CX X.prog X.w) X σ (WE W σ) := fun pins H s e s' _ q => by
  obtain ⟨_, _, _, _, _, _, _, _, _, _, _, _, z⟩ := q
  exact (h _ _ _ _ z).elim
theorem passF {X : Cx} : Passes (L2.CX X.prog X.w) X (fun _ _ _ => False) := fun pins σ H s e s' _ q => by
  obtain ⟨_, _, _, _, _, _, _, _, _, _, _, _, z⟩ := q
  exact z.elim
theorem passE {X : Cx} {E : XK} (tk : Takes X (fun cls d _ H => E cls d H)) : Passes (L2.CX X.prog X.w) X E := fun pins σ H s e s' => passAt tk σ pins H s e s'
section
variable {S : Type} {J : Jc S} {α β : Type} {ρ esc : Env} {σ : Sl} {G H : Hp} {L : Led}
theorem ev_notT {K : PySem.W.Frag} {te : TE} {m : MS S D} (h : EvX J te ρ m) : Ev J (tNotT K te) ρ (bnd m fun d => lft ((tru d).map fun b => .bl (!b))) := fun σ G s H L o Q q =>
  h.run o q fun d x G1 s1 H1 e1 o1 r q1 => Pst.lft q1 fun z hz q2 => by
    cases e : tru d with
    | none => rw [e] at hz; cases hz
    | some b =>
      rw [e] at hz
      cases hz
      exact ⟨b, tru_ok o1 r e, q2 _ _ _ (Same.refl _) o1 (.bl _)⟩
theorem ev_dnew : Ev J tDNewK ρ (ret (.dct [])) := fun σ G s H L o Q q p hp => by
  obtain ⟨sm, o'⟩ := o.lay (u := .dK []) hp
  exact q _ _ _ sm o' (.dct upd_same)
/-! ### new lists for own: a slice, two lists together, a list again and again -/
def lstOf : D → Option (List D)
  | .lst xs => some xs
  | _ => none
def slOf : D → Option (List D)
  | .lst xs => some xs
  | .lnt xs => some xs
  | _ => none
def oSlL (d : D) (lo hi : Option Int) : Option (List D) := (slOf d).map fun xs => cut xs lo hi
theorem el_sl {K : PySem.W.Frag} {te : TE} {tl th : TO} {m : MS S D} {ml mh : MS S (Option Int)} (h : EvX J te ρ m) (hl : EvO J tl ρ ml) (hh : EvO J th ρ mh) : EvL J (tSl (rSl K) te tl th) ρ (bnd m fun d => bnd ml fun lo => bnd mh fun hi => lft (oSlL d lo hi)) := fun σ G s H L o Q q =>
  h.runL o q fun d x G1 s1 H1 e1 o1 rx q1 => hl.runL o1 q1 fun lo l' G2 s2 H2 e2 o2 rl q2 => hh.runL o2 q2 fun hi h' G3 s3 H3 e3 o3 rh q3 => PstL.lft q3 fun z hz q4 => by
    cases rl
    cases rh
    have rx3 : rX J ρ σ G3 x d := (rX.mono e3 (rX.mono e2 rx))
    cases d with
    | lst ds =>
      cases hz
      obtain ⟨a, xs, h1, h2, r⟩ := rX.lst o3 rx3
      exact .inl (.inl ⟨a, xs, h1, sq_l h2, fun p hp => q4 _ _ _ _ (Same.refl _) (o3.nw hp) (cut_rp r)⟩)
    | lnt ds =>
      cases hz
      obtain ⟨a, u, xs, h1, h2, r⟩ := rX.lnt o3 rx3
      exact .inl (.inl ⟨a, xs, h1, sq_f h2, fun p hp => q4 _ _ _ _ (Same.refl _) (o3.nw hp) (cut_rp r)⟩)
    | _ => cases hz
def oCatL (d e : D) : Option (List D) := match lstOf d, lstOf e with
  | some xs, some ys => if xs.length + ys.length < tooLong then some (xs ++ ys) else none
  | _, _ => none
theorem el_add {K : PySem.W.Frag} {ta tb : TE} {ma mb : MS S D} (ha : EvX J ta ρ ma) (hb : EvX J tb ρ mb) : EvL J (tOp (rAdd K) ta tb) ρ (bnd ma fun d => bnd mb fun e => lft (oCatL d e)) := fun σ G s H L o Q q =>
  ha.runL o q fun d x G1 s1 H1 e1 o1 rx q1 => hb.runL o1 q1 fun e y G2 s2 H2 e2 o2 ry q2 => PstL.lft q2 fun z hz q4 => by
    have rx3 : rX J ρ σ G2 x d := rX.mono e2 rx
    cases d with
    | lst xs =>
      cases e with
      | lst ys =>
        have hz : (if xs.length + ys.length < tooLong then some (xs ++ ys) else none) = some z := hz
        obtain ⟨hl, rfl⟩ := ite_some hz
        obtain ⟨a, vs, rfl, h1, r1⟩ := rX.lst o2 rx3
        obtain ⟨b, us, rfl, h2, r2⟩ := rX.lst o2 ry
        exact .inl (.inr ⟨a, b, vs, us, rfl, rfl, h1, h2, long_ok (by rw [r1.length, r2.length]; exact hl), fun p hp => q4 _ _ _ _ (Same.refl _) (o2.nw hp) (r1.append r2)⟩)
      | _ => cases hz
    | _ => cases hz
def oRepL (d e : D) : Option (List D) := match d, e with
  | .lst xs, .int k => if xs.length * k.toNat < tooLong ∧ k.natAbs < 2305843009213693952 then some (List.replicate k.toNat xs).flatten else none
  | _, _ => none
theorem el_mul {ta tb : TE} {ma mb : MS S D} (ha : EvX J ta ρ ma) (hb : EvX J tb ρ mb) : EvL J (tOp rMul ta tb) ρ (bnd ma fun d => bnd mb fun e => lft (oRepL d e)) := fun σ G s H L o Q q =>
  ha.runL o q fun d x G1 s1 H1 e1 o1 rx q1 => hb.runL o1 q1 fun e y G2 s2 H2 e2 o2 ry q2 => PstL.lft q2 fun z hz q4 => by
    have rx3 : rX J ρ σ G2 x d := rX.mono e2 rx
    cases d with
    | lst xs =>
      cases e with
      | int k =>
        have hz : (if xs.length * k.toNat < tooLong ∧ k.natAbs < 2305843009213693952 then some (List.replicate k.toNat xs).flatten else none) = some z := hz
        obtain ⟨hl, rfl⟩ := ite_some hz
        obtain ⟨a, vs, rfl, h1, r1⟩ := rX.lst o2 rx3
        exact .inr ⟨a, k, vs, rfl, rX.int ry, h1, by have := hl.2; omega, by have := hl.2; omega, long_ok (by rw [r1.length]; exact hl.1), fun p hp => q4 _ _ _ _ (Same.refl _) (o2.nw hp) (r1.rep k.toNat)⟩
      | _ => cases hz
    | _ => cases hz
/-- xs[a], xs[b] = (u, v) -/
def two (ds : List D) : Option (D × D) := match ds with
  | [a, b] => some (a, b)
  | _ => none
theorem set1_some {ds es : List D} {k d : D} (h : set1 ds k d = some es) : ∃ z j, k = .int z ∧ ixN ds.length z = some j ∧ es = ds.set j d := by
  cases k with
  | int z =>
    unfold set1 at h
    dsimp only at h
    cases e : ixN ds.length z with
    | none => rw [e] at h; cases h
    | some j =>
      rw [e] at h
      cases h
      exact ⟨z, j, rfl, e, rfl⟩
  | _ => cases h
theorem sv_swap {K : PySem.W.Frag} {i : Nat} {ds : List D} {ta : TA} {ti tj : TE} {m : MS S (List D)} {n1 n2 : MS S D} (hi : ρ[i]? = some (.O ds)) (h : EvA J ta ρ m) (hk : ∀ es, Ev J ti (ρ.set i (.O es)) n1) (hj : ∀ es, Ev J tj (ρ.set i (.O es)) n2) (w : Wk ρ esc) (w' : ∀ es, Wk (ρ.set i (.O es)) esc) (hs : ρ.set i (.O ds) = ρ := by rfl) :
    Sv J Ta esc (tAsg (tTup ta) (gTup K 2 (gCons (gSub (tVar i) ti rSetL) (gCons (gSub (tVar i) tj rSetL) gNil)))) ρ
      (bnd m fun us => bnd (lft (two us)) fun u => bnd n1 fun k1 => bnd (lft (set1 ds k1 u.1)) fun es => bnd n2 fun k2 => lft (set1 es k2 u.2)) (fun es => .nx (ρ.set i (.O es))) := fun σ G s H L o E _ q =>
  h.runS o w q fun us xs G1 s1 H1 e1 o1 r q1 => by
    match us, r, q1 with
    | [], _, q1 => exact q1.elim
    | [_], _, q1 => exact q1.elim
    | _ :: _ :: _ :: _, _, q1 => exact q1.elim
    | [a, b], r, q1 =>
      have q1 : Pss J esc G1 E (fun es => .nx (ρ.set i (.O es))) ((bnd n1 fun k1 => bnd (lft (set1 ds k1 a)) fun es => bnd n2 fun k2 => lft (set1 es k2 b)) s1) := q1
      cases r with
      | @cons v1 _ _ _ ra r2 =>
        cases r2 with
        | @cons v2 _ _ _ rb r3 =>
          cases r3
          refine ⟨by show 2 ≤ sizeLine; decide, fun p hp => ?_⟩
          obtain ⟨sm, o2⟩ := o1.lay (u := .tup [v1, v2]) hp
          have o2' : Ok J.Z (J.lay s1) (ρ.set i (.O ds)) (upd G1 p (.tup [v1, v2])) σ L (upd H1 p (.tup [v1, v2])) := by rw [hs]; exact o2
          obtain ⟨p1, xs1, a1, a2, a3, a4⟩ := o2.put hi
          refine ⟨p, _, rfl, sq_t upd_same, rfl, _, _, rfl, ?_⟩
          refine ⟨.ref p1, a1, (hk ds).runS o2' (w' _) (Pss.mono sm q1) fun k1 kv G3 s3 H3 e3 o3 rv q3 => ?_⟩
          have o3' : Ok J.Z (J.lay s3) ρ G3 σ L H3 := by rw [hs] at o3; exact o3
          cases f1 : set1 ds k1 a with
          | none => rw [f1] at q3; exact q3.elim
          | some es1 =>
            rw [f1] at q3
            obtain ⟨z1, j1, rfl, x1, rfl⟩ := set1_some f1
            obtain ⟨p3, xs3, b1, b2, b3, b4⟩ := o3'.put hi
            rw [a1] at b1
            cases b1
            cases rX.int (J := J) (ρ := ρ) (σ := σ) (.inl rv)
            obtain ⟨L4, o4⟩ := b4 (xs3.set j1 v1) (ds.set j1 a) (b3.set (ra.mono (sm.trans e3)) j1)
            refine ⟨p1, xs3, z1, j1, rfl, rfl, b2, by rw [b3.length]; exact x1, ?_⟩
            refine ⟨_, _, rfl, .ref p1, a1, (hj _).runS o4 (w' _) (show Pss J esc G3 E _ ((bnd n2 fun k2 => lft (set1 (ds.set j1 a) k2 b)) s3) from q3) fun k2 kv2 G5 s5 H5 e5 o5 rv5 q5 => ?_⟩
            have hi5 : (ρ.set i (.O (ds.set j1 a)))[i]? = some (.O (ds.set j1 a)) := by
              rw [List.getElem?_set_self]
              exact (List.getElem?_eq_some_iff.mp hi).1
            refine Pss.lft q5 fun es f2 q6 => ?_
            obtain ⟨z2, j2, rfl, x2, rfl⟩ := set1_some f2
            obtain ⟨p5, xs5, c1, c2, c3, c4⟩ := o5.put hi5
            rw [a1] at c1
            cases c1
            cases rX.int (J := J) (ρ := ρ) (σ := σ) (.inl rv5)
            obtain ⟨L6, o6⟩ := c4 (xs5.set j2 v2) ((ds.set j1 a).set j2 b) (c3.set (rb.mono ((sm.trans e3).trans e5)) j2)
            refine ⟨p1, xs5, z2, j2, rfl, rfl, c2, by rw [c3.length]; exact x2, rfl, ?_⟩
            refine q6 σ G5 _ L6 (Same.refl _) ?_
            rw [List.set_set] at o6
            exact o6
/-- Fr inside a loop's turn -/
theorem sv_seqFr {γ : Type} {T : Ends → Prop} {t u : TS} {m : MS S (Fr α)} {k : α → MS S (Fl β γ)} {e : α → Env} {e' : β → Env} {eb : γ → Env} (h1 : Sv J Ta esc t ρ m (Fr.fin e)) (h2 : ∀ a, Sv J T esc u (e a) (k a) (Fl.fin e' eb)) :
    Sv J T esc (tSeq t u) ρ (bnd m fun r => match r with | .nx a => k a | .rt d => ret (.rt d)) (Fl.fin e' eb) := fun σ G s H L o E hT q =>
  h1 σ G s H L o { E with nx := u E } trivial (Pss.bind q fun a s' q1 => by
    cases a with
    | nx a => exact fun σ2 G2 H2 L2 e2 o2 => h2 a σ2 G2 s' H2 L2 o2 E hT (Pss.mono e2 q1)
    | rt d => exact q1)
/-- an if that returns, in a suite that may return -/
theorem sv_ifRr {γ : Type} {T : Ends → Prop} {tt : TT} {tu tw tz : TS} {mt : MS S Bool} {m1 : MS S D} {m2 : MS S (Fr α)} {e : α → Env} (h : EvT J tt ρ mt) (w : Wk ρ esc) (h1 : Sv J Ta esc tu ρ m1 Fin.rt) (h2 : Sv J T esc (tSeq tw tz) ρ m2 (Fr.fin e)) :
    Sv J T esc (tSeq (tIfS tt tu tw) tz) ρ (bnd mt fun b => if b = true then bnd m1 (fun d => ret (Fr.rt d)) else m2) (Fr.fin e) := fun σ G s H L o E ht q =>
  h.runS o w q fun b c G1 s1 H1 e1 o1 hc q1 => by
    cases hc
    cases b with
    | true => exact h1 σ G1 s1 H1 L o1 { E with nx := tz E } trivial (Pss.bind (k := fun d => ret (Fr.rt d)) (m := m1) q1 fun a s' q2 => q2)
    | false => exact h2 σ G1 s1 H1 L o1 E ht q1
theorem sv_seqRr {T : Ends → Prop} {t u : TS} {m : MS S (Fr α)} {k : α → MS S (Fr β)} {e : α → Env} {e' : β → Env} (h1 : Sv J Ta esc t ρ m (Fr.fin e)) (h2 : ∀ a, Sv J T esc u (e a) (k a) (Fr.fin e')) :
    Sv J T esc (tSeq t u) ρ (bnd m fun r => match r with | .nx a => k a | .rt d => ret (.rt d)) (Fr.fin e') := fun σ G s H L o E hT q =>
  h1 σ G s H L o { E with nx := u E } trivial (Pss.bind q fun a s' q1 => by
    cases a with
    | nx a => exact fun σ2 G2 H2 L2 e2 o2 => h2 a σ2 G2 s' H2 L2 o2 E hT (Pss.mono e2 q1)
    | rt d => exact q1)
theorem ev_neg {te : TE} {m : MS S D} (h : Ev J te ρ m) : Ev J (tUn (rU fun i => .int (-i)) te) ρ (bnd m fun d => lft (oNeg d)) := fun σ G s H L o Q q =>
  h.run o q fun d x G1 s1 H1 e1 o1 r q1 => Pst.lft q1 fun z hz q2 => by
    cases d with
    | int i =>
      cases hz
      exact ⟨i, rX.int (J := J) (ρ := ρ) (σ := σ) (.inl r), q2 _ _ _ (Same.refl _) o1 (.int _)⟩
    | _ => cases hz
theorem wk_all : ∀ (ρ : Env), Wk ρ (List.replicate ρ.length .U)
  | [] => .nil
  | _ :: e => .drop (wk_all e)
theorem wkU {ρ : Env} {n : Nat} (h : ρ.length = n := by rfl) : Wk ρ (List.replicate n .U) := h ▸ wk_all ρ
/-! ### the message of an error -/
def fmtV : V → Prop
  | .int i => 0 ≤ i ∧ i < 10 ^ 18
  | .str x => x.length < 1000
  | _ => False
/-- b, but no kernel looks into it -/
theorem sld_ex (b : Bool) : ∃ c : Bool, c = b := ⟨b, rfl⟩
noncomputable def sld (b : Bool) : Bool := (sld_ex b).choose
theorem sld_eq (b : Bool) : sld b = b := (sld_ex b).choose_spec
noncomputable def fmtD : D → Bool
  | .int i => sld (decide (0 ≤ i ∧ i < 10 ^ 18))
  | .str x => decide (x.length < 1000)
  | _ => false
theorem fmt_of {Z : Wo} {v : V} {d : D} (r : Rp Z G v d) (h : fmtD d = true) : fmtV v := by
  cases r with
  | int i =>
    have h : sld (decide (0 ≤ i ∧ i < 10 ^ 18)) = true := h
    rw [sld_eq] at h
    exact (of_decide_eq_true h : 0 ≤ i ∧ i < 10 ^ 18)
  | str x =>
    have h : decide (x.length < 1000) = true := h
    exact (of_decide_eq_true h : x.length < 1000)
  | _ => exact Bool.noConfusion h
def Tx1 (σ : Sl) (te : TE) : Prop := ∀ (H : Hp) (R : VK), (∀ y : Str, y.length ≤ 1000 → R (.str y) H) → te σ H R
inductive JsOk (σ : Sl) : List TE → Prop
  | nil : JsOk σ []
  | cons {te : TE} {ts : List TE} : Tx1 σ te → JsOk σ ts → JsOk σ (te :: ts)
theorem tx_str {x : Str} (h : x.length ≤ 1000) : Tx1 σ (tC (.str x)) := fun H R k => k x h
theorem tx_fmt {n : Nat} {v : V} (h : σ[n]? = some (some v)) (hv : fmtV v) : Tx1 σ (tFmt (tVar n)) := fun H R k => by
  cases v with
  | int i =>
    have hv : 0 ≤ i ∧ i < 10 ^ 18 := hv
    refine ⟨_, h, .inr ⟨i, rfl, ?_, k _ (Nat.le_trans (PyProof.Rows.toString_length_le hv.1 (k := 18) (by decide) hv.2) (by decide))⟩⟩
    have : i.natAbs < 2 ^ 60 := by
      have := hv.2
      omega
    rcases Nat.eq_zero_or_pos i.natAbs with h0 | h0
    · rw [h0]
      decide
    · exact Nat.lt_trans ((Nat.log2_lt (by omega)).2 this) (by decide)
  | str x => exact ⟨_, h, .inl ⟨x, rfl, by rw [sizeLine_eq]; exact Nat.le_trans (Nat.le_of_lt hv) (by decide), k _ (Nat.le_of_lt hv)⟩⟩
  | _ => exact hv.elim
theorem js_ok : ∀ {ts : List TE} {acc : Str}, JsOk σ ts → acc.length + 1000 * ts.length ≤ 1000000 → ∀ {H : Hp} {k : Str → Hp → Prop}, (∀ out, k out H) → tJs ts acc σ H k
  | [], acc, _, _, H, k, h => h _
  | te :: ts, acc, .cons t r, l, H, k, h => t H _ fun y hy => by
    have e : (acc ++ y).length = acc.length + y.length := PySem.Str.length_append _ _
    rw [List.length_cons] at l
    exact ⟨y, rfl, by rw [e, sizeLine_eq]; omega, js_ok r (by rw [e]; omega) h⟩
/-! ### what follows a part that may jump, by name -/
def frD (k : α → MS S D) : Fr α → MS S D
  | .nx a => k a
  | .rt d => ret d
def frR (k : α → MS S (Fr β)) : Fr α → MS S (Fr β)
  | .nx a => k a
  | .rt d => ret (.rt d)
def frF {γ : Type} (k : α → MS S (Fl β γ)) : Fr α → MS S (Fl β γ)
  | .nx a => k a
  | .rt d => ret (.rt d)
def flF {γ : Type} (k : α → MS S (Fl β γ)) : Fl α γ → MS S (Fl β γ)
  | .nx a => k a
  | .rt d => ret (.rt d)
  | .bk b => ret (.bk b)
  | .ct b => ret (.ct b)
section
variable {T : Ends → Prop} {t u : TS} {γ : Type} {e : α → Env} {e' : β → Env} {eb : γ → Env}
theorem sv_frD {m : MS S (Fr α)} {k : α → MS S D} (h1 : Sv J Ta esc t ρ m (Fr.fin e)) (h2 : ∀ a, Sv J T esc u (e a) (k a) Fin.rt) : Sv J T esc (tSeq t u) ρ (bnd m (frD k)) Fin.rt := fun σ G s H L o E hT q =>
  h1 σ G s H L o { E with nx := u E } trivial (Pss.bind q fun a s' q1 => by
    cases a with
    | nx a => exact fun σ2 G2 H2 L2 e2 o2 => h2 a σ2 G2 s' H2 L2 o2 E hT (Pss.mono e2 q1)
    | rt d => exact q1)
theorem sv_frR {m : MS S (Fr α)} {k : α → MS S (Fr β)} (h1 : Sv J Ta esc t ρ m (Fr.fin e)) (h2 : ∀ a, Sv J T esc u (e a) (k a) (Fr.fin e')) : Sv J T esc (tSeq t u) ρ (bnd m (frR k)) (Fr.fin e') := fun σ G s H L o E hT q =>
  h1 σ G s H L o { E with nx := u E } trivial (Pss.bind q fun a s' q1 => by
    cases a with
    | nx a => exact fun σ2 G2 H2 L2 e2 o2 => h2 a σ2 G2 s' H2 L2 o2 E hT (Pss.mono e2 q1)
    | rt d => exact q1)
theorem sv_frF {m : MS S (Fr α)} {k : α → MS S (Fl β γ)} (h1 : Sv J Ta esc t ρ m (Fr.fin e)) (h2 : ∀ a, Sv J T esc u (e a) (k a) (Fl.fin e' eb)) : Sv J T esc (tSeq t u) ρ (bnd m (frF k)) (Fl.fin e' eb) := fun σ G s H L o E hT q =>
  h1 σ G s H L o { E with nx := u E } trivial (Pss.bind q fun a s' q1 => by
    cases a with
    | nx a => exact fun σ2 G2 H2 L2 e2 o2 => h2 a σ2 G2 s' H2 L2 o2 E hT (Pss.mono e2 q1)
    | rt d => exact q1)
theorem sv_flF {m : MS S (Fl α γ)} {k : α → MS S (Fl β γ)} (h1 : Sv J Ta esc t ρ m (Fl.fin e eb)) (h2 : ∀ a, Sv J T esc u (e a) (k a) (Fl.fin e' eb)) : Sv J T esc (tSeq t u) ρ (bnd m (flF k)) (Fl.fin e' eb) := fun σ G s H L o E hT q =>
  h1 σ G s H L o { E with nx := u E } trivial (Pss.bind q fun a s' q1 => by
    cases a with
    | nx a => exact fun σ2 G2 H2 L2 e2 o2 => h2 a σ2 G2 s' H2 L2 o2 E hT (Pss.mono e2 q1)
    | rt d => exact q1
    | bk b => exact q1
    | ct b => exact q1)
end
end
end Dm

set_option Elab.async false
set_option linter.all false
set_option maxRecDepth 100000
set_option maxHeartbeats 2000000
namespace Dm
open PySem PySem.Spec PyProof.Rows L2
/-! the rules whose readings name the kit, with the kit said -/
section
variable {X : Cx} {K : PySem.W.Frag} (h : X.K = K)
include h
theorem ix_seqK : IxR X (rIx K) := h ▸ ix_seq
theorem op_eqK (hu : X.A.units + 64 < cLine) : OpR X (compareOp .Eq) (rEqX K) := OpR.either (h ▸ op_eqD hu) op_eq
theorem op_neK (hu : X.A.units + 64 < cLine) : OpR X (compareOp .NotEq) (rNeX K) := OpR.either (h ▸ op_neD hu) op_ne
theorem op_inK : OpR X (compareOp .In) (rIn K false) := h ▸ op_in_seq
theorem op_ninK : OpR X (compareOp .NotIn) (rIn K true) := h ▸ op_notIn_seq
theorem op_addK : OpR X (binaryOp .Add) (rAdd K) := h ▸ op_addG
theorem sl_anyK : SlR X (rSl K) := h ▸ sl_any
theorem pi_sqK {tg l : Expr} {tl : TE} (hl : PE X l tl) : PI X tg l (iSq K tl) := h ▸ pi_sq hl
theorem pi_enK {e : Expr} {ta : TA} {p pos tpos : Pos} {elts : List Expr} {kk : Nat} (hg : Gl X "enumerate") (hm : X.mg "enumerate" = none) (ha : PA X [e] ta) (hs : starEach [e] X.env = [(false, eval e X.env)] := by rfl) :
    PI X (.Tuple elts kk tpos) (.Call (.Name "enumerate" p) [e] [] pos) (iEn K ta) := h ▸ pi_en hg hm ha hs
theorem call_lnK : CallR X (.builtin "len") (rLn K) := h ▸ call_ln
theorem call_isiK : CallR X (.builtin "isinstance") (rIsi K) := h ▸ call_isi
theorem call_isiTK : CallR X (.builtin "isinstance") (rIsiT K) := h ▸ call_isiT
theorem call_tupK : CallR X (.type "tuple") (rTp K) := h ▸ call_tuple_of
theorem call_lstK : CallR X (.type "list") (rLs K) := h ▸ call_list_of
theorem pe_notTK {a : Expr} {ta : TE} {pos : Pos} (ha : PE X a ta) : PE X (.UnaryOp .Not a pos) (tNotT K ta) := h ▸ pe_notT ha
theorem pt_truK {a : Expr} {ta : TE} (ha : PE X a ta) (he : ∀ whole, isTrue a X.env whole = (do let v ← whole; standAt a.pos; holding [v] (truthy v))) : PT X a (fun σ H Q => ta σ H fun x H' => ∃ k, TruV K x H' k ∧ Q k H') := h ▸ pt_truth ha he
theorem pg_tupK {pos : Pos} {es : List Expr} {k : Nat} {t : TGs} {n : Nat} (hc : X.calm = true) (ht : PGs X es t) (hn : (assignEach es X.env).length = n := by rfl) (hf : List.findIdx? (fun x => x.fst) (assignEach es X.env) = none := by rfl) : PG X (.Tuple es k pos) (gTup K n t) := h ▸ pg_tup hc ht hn hf
end
theorem sv_J {S : Type} {J J2 : Jc S} {β : Type} {T : Ends → Prop} {esc : Dm.Env} {t : TS} {ρ : Dm.Env} {m : MS S β} {fin : β → Dm.Fin} (h : J2 = J) (s : Sv J2 T esc t ρ m fin) : Sv J T esc t ρ m fin := h ▸ s
theorem wk_refl : ∀ (ρ : Dm.Env), Wk ρ ρ
  | [] => .nil
  | _ :: e => .keep (wk_refl e)
theorem sv_rho {S : Type} {J : Jc S} {β : Type} {T : Ends → Prop} {esc ρ ρ2 : Dm.Env} {t : TS} {m : MS S β} {fin : β → Dm.Fin} (h : ρ = ρ2) (s : Sv J T esc t ρ m fin) : Sv J T esc t ρ2 m fin := h ▸ s
/-! ### try, by name -/
def tTry (K : PySem.W.Frag) (tb : WX → TS) (Wo : WX) (l : List Cls3) : TS := fun E σ H => tb (wHs K Wo E l) E σ H
theorem ps_tryK {X : Cx} {K : PySem.W.Frag} {body : List Stmt} {k0 : ExceptHandler} {ks : List ExceptHandler} {l : List Cls3} {pos : Pos} {tb : WX → TS} {Wo : WX} (h : X.K = K) (hst : X.stack = X.env :: X.outer) (hfr : X.env.frame = some X.env.locals) (hN : X.N.Nodup) (tk : Takes X Wo)
    (hb : ∀ (W : WX) (pn : List (Addr × Obj)) (xe : Value → Shared → Prop), Takes (X.tr pn xe) W → PassesOwn (model X.prog X.w) X.A X.env xe → PSs (X.tr pn xe) body (tb W)) (hh : HdsA X (k0 :: ks) l) :
    PS X (.Try body (k0 :: ks) [] [] pos) (tTry K tb Wo l) := h ▸ ps_tryA hst hfr hN tk hb hh
theorem sv_tryK {S : Type} {J : Jc S} {T : Ends → Prop} {esc ρ : Dm.Env} {K : PySem.W.Frag} {n : Nat} {tb : WX → TS} {Wo : WX} {l : List Cls3} {hs : List (Nat × (List D → MS S D))} {m : MS S D} {escB : Dm.Env} (hT : ∀ E i, T E → T (gone E i)) (hx : ∀ c c', c < n → c' < n → PySem.W.exmOne K (.ref (J.Z.cl c)) (.ref (J.Z.cl c')) = some (decide (c = c')))
    (hb : ∀ X, Sv (J.to X) T escB (tb X) ρ m Dm.Fin.rt) (hh : HsS J T esc escB Dm.Fin.rt l hs) (hn : ∀ p ∈ hs, p.1 < n) (we : Wk escB esc) (hW : Wo = J.X := by rfl) : Sv J T esc (tTry K tb Wo l) ρ (tryM n m hs) Dm.Fin.rt := by
  subst hW
  exact sv_try hT hx hn we hb hh
end Dm

set_option Elab.async false
set_option linter.all false
set_option maxRecDepth 100000
set_option maxHeartbeats 2000000
namespace Dm
open PySem PySem.Spec PyProof.Rows L2
/-! ### the hand is made -/
def absZ (n : Int) : Int := if n < 0 then -n else n
theorem ints_of {Z : Wo} {G : Hp} : ∀ {vs : List V} (ns : List Int), RpAll Z G vs (ns.map D.int) → vs = ns.map V.int
  | _, [], .nil => rfl
  | _, n :: ns, .cons h r => by
    cases h
    rw [List.map_cons, ints_of ns r]
theorem ints_rp {Z : Wo} {G : Hp} : ∀ ns : List Int, RpAll Z G (ns.map V.int) (ns.map D.int)
  | [] => .nil
  | n :: ns => .cons (.int n) (ints_rp ns)
def sF (K : PySem.W.Frag) (a : Addr) (ns : List Int) (G : Hp) : Prop := SqL K G a (ns.map V.int)
section
variable {S : Type} {J : Jc S} {ρ : Dm.Env} {K : PySem.W.Frag} {a : Addr} {ns : List Int} {i : Nat}
theorem ev_lenA (hi : ρ[i]? = some (.A a (sF K a ns))) : Ev J (tCB (rLn K) (tCons (tVar i) tNil)) ρ (ret (.int ns.length)) := EvG.pure fun σ G s H L o Q q => by
  obtain ⟨h1, h2⟩ := Cells.hand o.1 hi
  refine ⟨_, h1, .inl ⟨_, _, rfl, .inl ⟨_, Same.seq o.same h2, rfl⟩, ?_⟩⟩
  rw [List.length_map]
  exact q _ G H (Same.refl _) o (.int _)
theorem ei_sqA (hi : ρ[i]? = some (.A a (sF K a ns))) : EvI J (iSq K (tVar i)) ρ (ret (ns.map D.int)) := fun σ G s H L o R q => by
  obtain ⟨h1, h2⟩ := Cells.hand o.1 hi
  refine ⟨_, h1, a, rfl, .inl ⟨⟨_, Same.seq o.same h2⟩, ?_⟩⟩
  refine q _ G H (Same.refl _) o ?_
  have l : (ns.map D.int).length = (ns.map V.int).length := by rw [List.length_map, List.length_map]
  rw [l]
  refine walk_list.mono (fun H s => Same.seq s h2) fun i H x H' hi s y => ?_
  obtain ⟨d, hd, rd⟩ := (ints_rp (Z := J.Z) (G := G) ns).at y.2
  exact ⟨d, hd, .inl ⟨y.1, rd⟩⟩
end
/-- what the loop does -/
def handBody (t : D) (st : D × List D) : MS Unit (D × List D) :=
  bnd (bnd (bnd (bnd (bnd (ret st.1) fun d => bnd (ret (.int 1021)) fun e => lft (oMul d e)) fun d => bnd (bnd (ret t) fun d => lft (oIntOf d)) fun e => lft (oAdd d e)) fun d => lft (oIntOf d)) fun d => bnd (ret (.int 2147483587)) fun e => lft (oMod d e)) fun v =>
    bnd (bnd (bnd (bnd (ret t) fun d => lft (oIntOf d)) fun d => lft (oAbs d)) fun d => lft (app1 st.2 d)) fun es => bnd (ret ()) fun _ => ret (v, es)
theorem log2_small {n : Nat} (h : n < 2 ^ 40) : n.log2 < 41 := by
  rcases Nat.eq_zero_or_pos n with h0 | h0
  · rw [h0]
    decide
  · exact Nat.lt_trans ((Nat.log2_lt (by omega)).2 h) (by decide)
theorem handBody_ok {n tot : Int} {ds : List D} (h0 : 0 ≤ tot) (h1 : tot < 2 ^ 40) (hl : ds.length < tooLong) : ∃ tot', 0 ≤ tot' ∧ tot' < 2 ^ 40 ∧ handBody (.int n) (.int tot, ds) () = .ok (.int tot', ds ++ [.int (absZ n)]) () := by
  refine ⟨(tot * 1021 + n).fmod 2147483587, Int.fmod_nonneg_of_pos _ (by decide), Int.lt_trans (Int.fmod_lt_of_pos _ (by decide)) (by decide), ?_⟩
  have hm : oMul (.int tot) (.int 1021) = some (.int (tot * 1021)) := by
    have q : tot.natAbs < 2 ^ 40 := by omega
    have q1 := log2_small q
    have q2 : (1021 : Int).natAbs.log2 < 11 := by decide
    show (if tot.natAbs.log2 + (1021 : Int).natAbs.log2 < 1000000 then some (D.int (tot * 1021)) else none) = _
    exact if_pos (by omega)
  have ha : app1 ds (.int (absZ n)) = some (ds ++ [.int (absZ n)]) := if_pos hl
  have hb : handBody (.int n) (.int tot, ds) = bnd (lft (app1 ds (.int (absZ n)))) fun es => ret (.int ((tot * 1021 + n).fmod 2147483587), es) := by
    unfold handBody
    simp only [bnd_ret, bnd_bnd, lft_some, hm]
    rfl
  rw [hb, ha]
  rfl
theorem handLoop_ok : ∀ (ns : List Int) {tot : Int} {ds : List D}, 0 ≤ tot → tot < 2 ^ 40 → ds.length + ns.length < tooLong → ∃ tot', forN un1 handBody (ns.map D.int) (.int tot, ds) () = .ok (.int tot', ds ++ (ns.map absZ).map D.int) ()
  | [], tot, ds, _, _, _ => ⟨tot, by rw [List.map_nil, List.map_nil, List.map_nil, List.append_nil]; rfl⟩
  | n :: ns, tot, ds, h0, h1, hl => by
    rw [List.length_cons] at hl
    obtain ⟨t1, a0, a1, e⟩ := handBody_ok (n := n) (ds := ds) h0 h1 (by omega)
    obtain ⟨t2, e2⟩ := handLoop_ok ns (tot := t1) (ds := ds ++ [.int (absZ n)]) a0 a1 (by rw [List.length_append, List.length_singleton]; omega)
    refine ⟨t2, ?_⟩
    show ((handBody (.int n) (.int tot, ds) ()).go fun b => forN un1 handBody (ns.map D.int) b) = _
    rw [e]
    show forN un1 handBody (ns.map D.int) (.int t1, ds ++ [.int (absZ n)]) () = _
    rw [e2, List.append_assoc]
    rfl
abbrev rInt1 : List V → Hp → VK → Prop := fun xs H Q => (∃ i, xs = [.int i] ∧ Q (.int i) H) ∨ ∃ k, xs = [.bl k] ∧ Q (.int (if k then 1 else 0)) H
abbrev rAbs1 : List V → Hp → VK → Prop := fun xs H Q => ∃ i, xs = [.int i] ∧ Q (.int (if i < 0 then -i else i)) H
abbrev rModN : R2 := rI (fun _ j => j ≠ 0) fun i j => .int (i.fmod j)
def tHandBody (K : PySem.W.Frag) : TS := tSeq (tAsg (tOp rModN (tCB rInt1 (tCons (tOp (rAdd K) (tOp rMul (tVar 1) (tC (.int 1021))) (tCB rInt1 (tCons (tVar 3) tNil))) tNil)) (tC (.int 2147483587))) (gName 1))
  (tSeq (tDrop (tBM K "list" rAppend (tVar 2) (tCons (tCB rAbs1 (tCons (tCB rInt1 (tCons (tVar 3) tNil)) tNil)) tNil))) tNext)
def tHand (K : PySem.W.Frag) (n : Int) : TS := tSeq (tAsg (tOp (rAdd K) (tCB (rLn K) (tCons (tVar 0) tNil)) (tC (.int n))) (gName 1)) (tSeq (tAsg (tLst tNil) (gName 2)) (tSeq (tFor (iSq K (tVar 0)) (gName 3) (tHandBody K))
  (tRet (tLst (tCons (tVar 2) (tCons (tC (.int 0)) (tCons (tC (.int 0)) (tCons (tVar 1) tNil))))))))
theorem hand_ok {K : PySem.W.Frag} {n : Int} {N : List Str} {Q : VK} {E : XK} {H : Hp} {vs : List V} (h : spHand K vs H Q E) (hn : 0 ≤ n ∧ n < 1000000) (hN : N.length = 4) : tHand K n (ends Q) (L2.start N vs) H := by
  obtain ⟨a, ns, rfl, hs, hl, k⟩ := h
  let Z : Wo := ⟨K, fun _ => 0, fun _ => []⟩
  let J : Jc Unit := ⟨Z, fun _ : Unit => [], fun _ _ _ _ => False⟩
  let c0 : Cell := .A a (sF K a ns)
  have s1 : Sv J Ta (List.replicate 4 .U) (tAsg (tOp (rAdd K) (tCB (rLn K) (tCons (tVar 0) tNil)) (tC (.int n))) (gName 1)) [c0, .U, .U, .U] (bnd (ret (.int ns.length)) fun d => bnd (ret (.int n)) fun e => lft (oAdd d e)) (fun x => .nx [c0, .P x, .U, .U]) :=
    sv_asg (ev_op o2_add (Ev.x (ev_lenA (i := 0) rfl)) (Ev.x ev_int)) wkU
  have s2 : ∀ x, Sv J Ta (List.replicate 4 .U) (tAsg (tLst tNil) (gName 2)) [c0, .P x, .U, .U] (bnd (ret []) fun ds => lft (mkL ds)) (fun ds => .nx [c0, .P x, .O ds, .U]) := fun x => sv_asgL (el_lst ea_nil) wkU (hi := Nat.le_of_ble_eq_true rfl)
  have s3 : ∀ x ds, Sv J Ta (List.replicate 4 .U) (tFor (iSq K (tVar 0)) (gName 3) (tHandBody K)) [c0, .P x, .O ds, .U] (bnd (ret (ns.map D.int)) fun ds' => forN un1 handBody ds' (x, ds)) (fun st => .nx [c0, .P st.1, .O st.2, .U]) := fun x ds =>
    sv_forN (e := fun (st : D × List D) => ([c0, .P st.1, .O st.2, .U] : Dm.Env)) (x, ds) (ei_sqA rfl) wkU (tg_name 3) fun t st =>
      sv_seq (e := fun (v : D) => ([c0, .P v, .O st.2, .P t] : Dm.Env)) (sv_asg (ev_op o2_mod (Ev.x (ev_b1 o1_int (Ev.x (ev_op o2_add (Ev.x (ev_op o2_mul (Ev.x (ev_var (i := 1) rfl)) (Ev.x ev_int))) (Ev.x (ev_b1 o1_int (Ev.x (ev_var (i := 3) rfl)))))))) (Ev.x ev_int)) wkU) fun v =>
      sv_seq (e := fun (es : List D) => ([c0, .P v, .O es, .P t] : Dm.Env)) (sv_app (i := 2) rfl (ev_b1 o1_abs (Ev.x (ev_b1 o1_int (Ev.x (ev_var (i := 3) rfl))))) wkU) fun es =>
      sv_to (g := fun _ => (v, es)) sv_next fun _ => Wk.keep (Wk.keep (Wk.keep (Wk.drop Wk.nil)))
  have start : Ok Z [] [c0, .U, .U, .U] H [some (.ref a), none, none, none] [] H := ⟨.A (fun G' s => Same.seq s hs) (.U (.U (.U .nil))), fun _ _ e => e, List.nodup_nil, fun p hp => nomatch hp⟩
  have es : L2.start N [.ref a] = [some (.ref a), none, none, none] := by
    unfold L2.start
    rw [hN]
    rfl
  rw [es]
  have lt : (63 : Int) < 2 ^ 39 := by decide
  obtain ⟨tot, e3⟩ := handLoop_ok ns (tot := (ns.length : Int) + n) (ds := []) (by omega) (by omega) (by rw [List.length_nil]; unfold tooLong; omega)
  refine s1 _ H () H [] start _ trivial ?_
  show ∀ σ G' H' L, _ → _ → _
  intro σ1 G1 H1 L1 sm1 o1
  refine s2 _ _ G1 () H1 L1 o1 _ trivial ?_
  show ∀ σ G' H' L, _ → _ → _
  intro σ2 G2 H2 L2 sm2 o2
  refine s3 _ _ _ G2 () H2 L2 o2 _ trivial ?_
  show Pss J _ G2 _ _ (forN un1 handBody (ns.map D.int) (.int ((ns.length : Int) + n), []) ())
  rw [e3]
  intro σ3 G3 H3 L3 sm3 o3
  obtain ⟨c3, w3⟩ := o3
  have c3 : Cells Z G3 [Cell.A a (sF K a ns), .P (.int tot), .O ([] ++ (ns.map absZ).map D.int), .U] σ3 L3 := c3
  cases c3 with
  | A f c =>
    cases c with
    | P r1 c =>
      cases r1
      cases c with
      | @O _ _ _ p xs _ r2 c =>
        cases c with
        | U c =>
          cases c
          have hx := ints_of (ns.map absZ) (vs := xs) (by simpa using r2)
          have hp : H3 p = some (.lst xs) := (w3.own (p, .lst xs) (by simp)).1
          refine ⟨_, rfl, _, rfl, (by show 4 ≤ sizeLine; decide), fun l hl' => ?_⟩
          have ne : p ≠ l := ne_of_none hp hl'
          refine k l p _ tot ne upd_same ?_
          rw [upd_ne ne, hp, hx]
          rfl
end Dm

set_option Elab.async false
set_option linter.all false
set_option maxRecDepth 100000
set_option maxHeartbeats 2000000
namespace Dm
open PySem PySem.Spec PyProof.Rows L2
/-! ### the written part: defs with defaults -/
section
variable {K : PySem.W.Frag} {x qual : Str} {params : Arguments} {body : List Stmt} {scope : Scope} {dvs : List V} {f : Addr} {fd : FuncData} {ps : List Str}
theorem bindD (F : FunD K x qual params body scope dvs [] f fd) (n j : Nat) (hd : dvs ≠ []) (hn : n + (dvs.length - j) = ps.length)
    (h : ∀ (q : Addr) (kV doc pm : Value) (an : Option Addr) (cdv ct : Value) (us its : List Value), us.length = n → its.length = dvs.length →
      ∃ k, bindArgs (PySem.W.fnOf x qual params body scope (.ref q) kV doc pm an cdv ct) ⟨us, []⟩ = seqItems? (.ref q) >>= k ∧ k (some its.toArray) = pure (ps.zip (us ++ its.drop j))) :
    ∃ ds : List Value, Vals (dvs.drop j) ds ∧ Binds K fd ps ds := by
  obtain ⟨oc, od, dV, kV, doc, pm, an, cdv, ct, osl, rfl, lk, hcd, hD, hK⟩ := F.ex
  rcases hD with ⟨e, _⟩ | ⟨_, q, o, its, m, rfl, l1, o1, r1⟩
  · exact (hd e).elim
  · have hl : its.length = dvs.length := r1.length.symm
    refine ⟨its.drop j, ?_, fun s us X hu => ?_⟩
    · clear h hn lk F
      have go : ∀ (j : Nat) {a : List V} {b : List Value}, Vals a b → Vals (a.drop j) (b.drop j) := by
        intro j
        induction j with
        | zero => intro a b h; exact h
        | succ j ih =>
          intro a b h
          cases h with
          | nil => exact .nil
          | cons h1 h2 => exact ih h2
      exact go j r1
    · have hun : us.length = n := by
        rw [List.length_append, List.length_drop, hl] at hu
        omega
      obtain ⟨k, e1, e2⟩ := h q kV doc pm an cdv ct us its hun hl
      refine BindsTo.of_looks fun M => ?_
      rw [e1]
      exact looks_items X l1 o1 (.of_pure e2)
theorem bindD0 (F : FunD K x qual params body scope dvs [] f fd) (hd : dvs ≠ []) 
    (h : ∀ (q : Addr) (kV doc pm : Value) (an : Option Addr) (cdv ct : Value) (us its : List Value), us.length = ps.length → its.length = dvs.length →
      ∃ k, bindArgs (PySem.W.fnOf x qual params body scope (.ref q) kV doc pm an cdv ct) ⟨us, []⟩ = seqItems? (.ref q) >>= k ∧ k (some its.toArray) = pure (ps.zip (us ++ its.drop dvs.length))) : Binds K fd ps [] := by
  obtain ⟨ds, r, b⟩ := bindD F ps.length dvs.length hd (by omega) h
  rw [List.drop_length] at r
  cases r
  exact b
end
theorem vals_append : ∀ {a b : List V} {us ws : List Value}, Vals a us → Vals b ws → Vals (a ++ b) (us ++ ws)
  | _, _, _, _, .nil, h => h
  | _, _, _, _, .cons h r, h2 => .cons h (vals_append r h2)
theorem exm_two {K : PySem.W.Frag} {S S2 : Addr} {b : Bool} (h1 : PySem.W.subIn K (.ref S2) (.type "BaseException") = some true) (h2 : PySem.W.isClsIn K S2 = true) (h3 : PySem.W.typeIn K (.ref S2) = some (.type "type")) (h4 : PySem.W.subIn K (.ref S) (.ref S2) = some b) :
    PySem.W.exmOne K (.ref S) (.ref S2) = some b := by
  have e1 : (PySem.W.subIn K (.ref S2) (.type "BaseException") == some true) = true := by rw [h1] <;> rfl
  have e2 : ((PySem.W.clsIn K S2).isSome && PySem.W.typeIn K (.ref S2) == some (.type "type")) = true := by
    have h2' : (PySem.W.clsIn K S2).isSome = true := h2
    rw [h2', h3] <;> rfl
  show (if (PySem.W.subIn K (.ref S2) (.type "BaseException") == some true) = true then (if ((PySem.W.clsIn K S2).isSome && PySem.W.typeIn K (.ref S2) == some (.type "type")) = true then PySem.W.subIn K (.ref S) (.ref S2) else none) else none) = some b
  rw [if_pos e1, if_pos e2]
  exact h4
theorem cx_no {P : Program} {w : World} {H : Hp} {s : Shared} {e : Value} {s' : Shared} (h : L2.CX P w [] H s (fun _ _ _ => False) e s') : False := by
  obtain ⟨_, _, _, _, _, _, _, _, _, _, _, _, z⟩ := h
  exact z
end Dm

set_option Elab.async false
set_option linter.all false
set_option maxRecDepth 100000
set_option maxHeartbeats 2000000
namespace Dm
open PySem PySem.Spec PyProof.Rows L2
/-! ### mathematics of mirrors -/
def Hok (cells : List Int) (s : Hd) : Prop := 0 ≤ s.pos ∧ s.pos ≤ cells.length ∧ 0 ≤ s.rest
/-- m ends well at every hand, with P -/
def Tk {α : Type} (cells : List Int) (m : MS Hd α) (P : α → Prop) : Prop := ∀ s, Hok cells s → ∃ a s', m s = .ok a s' ∧ Hok cells s' ∧ P a
section
variable {α β τ : Type} {cells : List Int} {m : MS Hd α} {P : α → Prop} {Q : β → Prop}
theorem tk_ret {a : α} (h : P a) : Tk cells (ret a) P := fun s hs => ⟨a, s, rfl, hs, h⟩
theorem tk_bnd {k : α → MS Hd β} (h : Tk cells m P) (hk : ∀ a, P a → Tk cells (k a) Q) : Tk cells (bnd m k) Q := fun s hs => by
  obtain ⟨a, s1, e, h1, p⟩ := h s hs
  obtain ⟨b, s2, e2, h2, q⟩ := hk a p s1 h1
  refine ⟨b, s2, ?_, h2, q⟩
  show (m s).go k = _
  rw [e]
  exact e2
theorem tk_mono {P' : α → Prop} (h : Tk cells m P) (w : ∀ a, P a → P' a) : Tk cells m P' := fun s hs => by
  obtain ⟨a, s1, e, h1, p⟩ := h s hs
  exact ⟨a, s1, e, h1, w a p⟩
theorem tk_nex (h : Tk cells m P) : Tk cells (nex m) P := fun s hs => by
  obtain ⟨a, s1, e, h1, p⟩ := h s hs
  refine ⟨a, s1, ?_, h1, p⟩
  unfold nex
  rw [e]
theorem tk_lft {o : Option α} {a : α} (e : o = some a) (h : P a) : Tk cells (lft o) P := by
  subst e
  exact tk_ret h
/-- a comprehension over the hand: no condition -/
theorem tk_lcAll {un : D → Option τ} {f : τ → MS Hd D} {P : D → Prop} : ∀ {ds : List D}, (∀ d ∈ ds, ∃ t, un d = some t ∧ Tk cells (f t) P) → Tk cells (lcM un (fun _ => ret true) f ds) (fun ys => ys.length = ds.length ∧ ∀ y ∈ ys, P y)
  | [], _ => tk_ret ⟨rfl, fun y hy => nomatch hy⟩
  | d :: ds, h => by
    obtain ⟨t, e, ht⟩ := h d (by simp)
    have ih := tk_lcAll (ds := ds) (fun d hd => h d (by simp [hd]))
    show Tk cells (bnd (lft (un d)) fun t => bnd (nex (ret true)) fun b => if b = true then bnd (nex (f t)) fun y => bnd (lcM un (fun _ => ret true) f ds) fun ys => ret (y :: ys) else lcM un (fun _ => ret true) f ds) _
    rw [e, lft_some, bnd_ret, nex_ret, bnd_ret, if_pos rfl]
    refine tk_bnd (tk_nex ht) fun y py => tk_bnd ih fun ys hys => tk_ret ⟨by simp [hys.1], fun z hz => ?_⟩
    rcases List.mem_cons.mp hz with e | e
    · rw [e]
      exact py
    · exact hys.2 z e
/-- .. with a condition: some of the items -/
theorem tk_lcSome {un : D → Option τ} {c : τ → MS Hd Bool} {f : τ → MS Hd D} {P : D → Prop} : ∀ {ds : List D}, (∀ d ∈ ds, ∃ t, un d = some t ∧ Tk cells (c t) (fun _ => True) ∧ Tk cells (f t) P) → Tk cells (lcM un c f ds) (fun ys => ys.length ≤ ds.length ∧ ∀ y ∈ ys, P y)
  | [], _ => tk_ret ⟨Nat.le_refl _, fun y hy => nomatch hy⟩
  | d :: ds, h => by
    obtain ⟨t, e, hc, ht⟩ := h d (by simp)
    have ih := tk_lcSome (ds := ds) (fun d hd => h d (by simp [hd]))
    show Tk cells (bnd (lft (un d)) fun t => bnd (nex (c t)) fun b => if b = true then bnd (nex (f t)) fun y => bnd (lcM un c f ds) fun ys => ret (y :: ys) else lcM un c f ds) _
    rw [e, lft_some, bnd_ret]
    refine tk_bnd (tk_nex hc) fun b _ => ?_
    cases b with
    | false =>
      rw [if_neg Bool.false_ne_true]
      exact tk_mono ih fun ys hys => ⟨Nat.le_succ_of_le hys.1, hys.2⟩
    | true =>
      rw [if_pos rfl]
      refine tk_bnd (tk_nex ht) fun y py => tk_bnd ih fun ys hys => tk_ret ⟨by simpa using hys.1, fun z hz => ?_⟩
      rcases List.mem_cons.mp hz with e | e
      · rw [e]
        exact py
      · exact hys.2 z e
end
/-- a comprehension without the hand -/
theorem lcM_ret {S τ : Type} {un : D → Option τ} {c : τ → MS S Bool} {f : τ → MS S D} {p : τ → Bool} {g : τ → D} : ∀ {ts : List τ} {ds : List D}, ds.map un = ts.map some → (∀ t ∈ ts, c t = ret (p t)) → (∀ t ∈ ts, p t = true → f t = ret (g t)) → lcM un c f ds = ret ((ts.filter p).map g)
  | [], [], _, _, _ => rfl
  | [], d :: ds, e, _, _ => by cases e
  | t :: ts, [], e, _, _ => by cases e
  | t :: ts, d :: ds, e, hc, hf => by
    rw [List.map_cons, List.map_cons] at e
    have e1 : un d = some t := (List.cons.inj e).1
    have e2 := (List.cons.inj e).2
    have ih := lcM_ret (c := c) (f := f) (p := p) (g := g) e2 (fun t ht => hc t (by simp [ht])) (fun t ht => hf t (by simp [ht]))
    show (bnd (lft (un d)) fun t => bnd (nex (c t)) fun b => if b = true then bnd (nex (f t)) fun y => bnd (lcM un c f ds) fun ys => ret (y :: ys) else lcM un c f ds) = _
    rw [e1, lft_some, bnd_ret, hc t (by simp), nex_ret, bnd_ret, ih]
    cases hp : p t with
    | false =>
      rw [if_neg Bool.false_ne_true, List.filter_cons_of_neg (by rw [hp]; exact Bool.false_ne_true)]
    | true =>
      rw [if_pos rfl, hf t (by simp) hp, nex_ret, bnd_ret, bnd_ret, List.filter_cons_of_pos hp]
      rfl
theorem eqD_int (i j : Int) : eqD (.int i) (.int j) = some (decide (i = j)) := by
  show eqD0 (.int i) (.int j) = _
  unfold eqD0
  by_cases h : i = j
  · subst h
    simp [toPy, SeqAt.shaped, PyData.eqv, PyData.canLay0, PyData.depth]
  · simp [toPy, SeqAt.shaped, PyData.eqv, h, PyData.canLay0, PyData.depth]
theorem mul_small {i j : Int} (hi : i.natAbs < 2 ^ 40) (hj : j.natAbs < 2 ^ 40) : oMul (.int i) (.int j) = some (.int (i * j)) := by
  have q1 := log2_small hi
  have q2 := log2_small hj
  show (if i.natAbs.log2 + j.natAbs.log2 < 1000000 then some (D.int (i * j)) else none) = _
  exact if_pos (by omega)
theorem mod_pos {i j : Int} (h : 0 < j) : oMod (.int i) (.int j) = some (.int (i.fmod j)) := by
  show (if decide (j ≠ 0) = true then some (D.int (i.fmod j)) else none) = _
  exact if_pos (by simp; omega)
theorem div_pos {i j : Int} (h : 0 < j) (hj : j.natAbs < 2 ^ 40) : oDiv (.int i) (.int j) = some (.int (i / j)) := by
  have q := log2_small hj
  show (if decide (0 < j ∧ j.natAbs.log2 < 9000) = true then some (D.int (i / j)) else none) = _
  exact if_pos (by simp; omega)
theorem fmod_in {i j : Int} (h : 0 < j) : 0 ≤ i.fmod j ∧ i.fmod j < j := ⟨Int.fmod_nonneg_of_pos _ h, Int.fmod_lt_of_pos _ h⟩
section
variable {β : Type} {cells : List Int} (k : D → MS Hd β) (u : Unit → MS Hd β) (h : Hd)
theorem at_get0 : bnd (hget cells 0) k h = k (.lst (cells.map D.int)) h := rfl
theorem at_get1 : bnd (hget cells 1) k h = k (.int h.pos) h := rfl
theorem at_get2 : bnd (hget cells 2) k h = k (.int h.rest) h := rfl
theorem at_get3 : bnd (hget cells 3) k h = k (.int h.total) h := rfl
theorem at_put1 (i : Int) : bnd (hput 1 (.int i)) u h = u () { h with pos := i } := rfl
theorem at_put2 (i : Int) : bnd (hput 2 (.int i)) u h = u () { h with rest := i } := rfl
theorem at_put3 (i : Int) : bnd (hput 3 (.int i)) u h = u () { h with total := i } := rfl
end
theorem oEq_int (i j : Int) : oEq (.int i) (.int j) = some (.bl (decide (i = j))) := by
  unfold oEq
  rw [eqD_int]
  rfl
theorem oNe_int (i j : Int) : oNe (.int i) (.int j) = some (.bl (!decide (i = j))) := by
  unfold oNe
  rw [eqD_int]
  rfl
theorem oAdd_int (i j : Int) : oAdd (.int i) (.int j) = some (.int (i + j)) := rfl
theorem oSub_int (i j : Int) : oSub (.int i) (.int j) = some (.int (i - j)) := rfl
theorem oLt_int (i j : Int) : oLt (.int i) (.int j) = some (.bl (decide (i < j))) := rfl
theorem oGt_int (i j : Int) : oGt (.int i) (.int j) = some (.bl (decide (j < i))) := rfl
theorem oLe_int (i j : Int) : oLe (.int i) (.int j) = some (.bl (decide (i ≤ j))) := rfl
theorem oGe_int (i j : Int) : oGe (.int i) (.int j) = some (.bl (decide (j ≤ i))) := rfl
theorem oIntOf_int (i : Int) : oIntOf (.int i) = some (.int i) := rfl
theorem asB_bl (b : Bool) : asB (.bl b) = some b := rfl
theorem tru_bl (b : Bool) : tru (.bl b) = some b := rfl
theorem oLen_lst (ds : List D) : oLen (.lst ds) = some (.int ds.length) := rfl
theorem oLen_tup (ds : List D) : oLen (.tup ds) = some (.int ds.length) := rfl
theorem frD_nx {S α : Type} (k : α → MS S D) (a : α) : frD k (.nx a) = k a := rfl
theorem frD_rt {S α : Type} (k : α → MS S D) (d : D) : frD k (.rt d) = ret d := rfl
/-! evaluation at a state -/
section
variable {S α β : Type} (s : S)
theorem bnd_at (m : MS S α) (k : α → MS S β) : bnd m k s = (m s).go k := rfl
theorem go_ok (a : α) (k : α → MS S β) : (Rs.ok a s).go k = k a s := rfl
theorem ret_at (a : α) : (ret a : MS S α) s = .ok a s := rfl
theorem lft_at (a : α) : (lft (some a) : MS S α) s = .ok a s := rfl
theorem ite_t {m n : MS S α} : (if true = true then m else n) s = m s := rfl
theorem ite_f {m n : MS S α} : (if false = true then m else n) s = n s := rfl
theorem nex_at {m : MS S α} {a : α} {s s' : S} (h : m s = .ok a s') : nex m s = .ok a s' := by
  unfold nex
  rw [h]
theorem frD_nxS (k : α → MS S D) (a : α) : frD k (.nx a) s = k a s := rfl
theorem frD_rtS (k : α → MS S D) (d : D) : frD k (.rt d) s = .ok d s := rfl
theorem un1_eq (d : D) : un1 d = some d := rfl
end
section
variable {cells : List Int} (h : Hd)
theorem get0_at : hget cells 0 h = .ok (.lst (cells.map D.int)) h := rfl
theorem get1_at : hget cells 1 h = .ok (.int h.pos) h := rfl
theorem get2_at : hget cells 2 h = .ok (.int h.rest) h := rfl
theorem get3_at : hget cells 3 h = .ok (.int h.total) h := rfl
theorem put1_at (i : Int) : hput 1 (.int i) h = .ok () { h with pos := i } := rfl
theorem put2_at (i : Int) : hput 2 (.int i) h = .ok () { h with rest := i } := rfl
theorem put3_at (i : Int) : hput 3 (.int i) h = .ok () { h with total := i } := rfl
end
theorem atI_map {cells : List Int} {p : Int} (h0 : 0 ≤ p) (h1 : p < cells.length) : ∃ c, oIx (.lst (cells.map D.int)) (.int p) = some (.int c) := by
  obtain ⟨k, rfl⟩ := Int.eq_ofNat_of_zero_le h0
  have hk : k < cells.length := by omega
  refine ⟨cells[k], ?_⟩
  show atI (cells.map D.int) (k : Int) = _
  refine atI_nat ?_
  rw [List.getElem?_map, List.getElem?_eq_getElem hk]
  rfl
theorem pow_18 : oPow (.int 10) (.int 18) = some (.int 1000000000000000000) := by rfl
theorem pow_20 : oPow (.int 10) (.int 20) = some (.int 100000000000000000000) := by rfl
end Dm

set_option Elab.async false
set_option linter.all false
set_option maxRecDepth 100000
set_option maxHeartbeats 4000000
namespace Dm
open PySem PySem.Spec PyProof.Rows L2
/-! ### defs that are called where no repr is under way -/
structure FnG (P : Program) (w : World) (K : PySem.W.Frag) (mg : Str → Option Value) (base : Heap) (CX : CXT) (n : Nat) (fa : Addr) (fd : FuncData) (ps : List Str) (sp : Sp) : Prop where
  len : ∀ vs H Q E, sp vs H Q E → vs.length = ps.length
  go : ∀ (A : Around) (out : List PySem.Env) (s : Shared) (H : Hp) (ar : Args) (us : List Value) (vs : List V) (Q : VK) (E : XK), A.guards = some [] → Room n A → Env0 P w K mg base A out s H → BindsTo s fd ar (ps.zip us) → Vals vs us →
    sp vs H Q E → codeAny (model P w) A (.call (.ref fa) ar) (CR CX out P w H s Q E) s
section
variable {P : Program} {w : World} {K : PySem.W.Frag} {mg : Str → Option Value} {base : Heap} {CX : CXT} {n m : Nat} {fa : Addr} {fd : FuncData} {ps : List Str} {sp : Sp}
theorem FnG.of (F : FnOk P w K mg base CX n fa fd ps sp) : FnG P w K mg base CX n fa fd ps sp where
  len := F.len
  go := fun A out s H ar us vs Q E _ room e0 bt vu z => F.run A out s H ar us vs Q E room e0 bt vu z
theorem FnG.more (F : FnG P w K mg base CX n fa fd ps sp) (h : n ≤ m) : FnG P w K mg base CX m fa fd ps sp where
  len := F.len
  go := fun A out s H ar us vs Q E g room e0 bt vu z => F.go A out s H ar us vs Q E g (room.mono h) e0 bt vu z
/-- a def by its body -/
theorem fnG_of {nm qn : Str} {pr : Arguments} {bd : List Stmt} {sc : Scope} {dv kv dc pm cd ct oc : Value} {an od : Option Addr} {sl : Array (Option Value)} {N : List Str}
    (lk : K.lookup fa = some ⟨oc, od, .func (PySem.W.fnOf nm qn pr bd sc dv kv dc pm an cd ct), sl⟩) (hc : PySem.W.codeIn K cd qn = true) (S : FnScope N ps sc) (len : ∀ vs H Q E, sp vs H Q E → vs.length = ps.length)
    (body : ∀ (A : Around) (out : List PySem.Env) (s : Shared) (H : Hp) (vs : List V) (Q : VK) (E : XK), A.guards = some [] → Room n (A.deeper (envOfC qn sc s.heap.objs.size fa cd)) → sp vs H Q E →
      ∃ t, PSs (cxOf CX P w K mg base N qn sc fa cd A out s H E) bd t ∧ t { nx := fun _ G => Q .non G, rt := Q } (start N vs) H) :
    FnG P w K mg base CX (n + 1) fa (PySem.W.fnOf nm qn pr bd sc dv kv dc pm an cd ct) ps sp := by
  refine ⟨len, fun A out s H ar us vs Q E g room e0 bt vu z => ?_⟩
  have lv := len _ _ _ _ z
  have kin : K.In s.heap := e0.mod.kin.keeps fun b o q => (e0.bs b o q).1
  have nl : s.heap.NoLimit := e0.mod.nolimit.keeps fun b o q => (e0.bs b o q).1
  have kinds : ∀ y ∈ ps.zip us, sc.names.lookup y.1 = some .local ∨ (sc.names.lookup y.1 = some .cell ∧ ((cellsFrom (s.heap.objs.size + 1) sc.names []).lookup y.1).isSome = true) := by
    rintro ⟨x, u⟩ hy
    rcases S.par x (List.of_mem_zip hy).1 with q | q
    · exact Or.inl q
    · exact Or.inr ⟨q, PySem.W.cellsFrom_some _ _ _ (Or.inl q)⟩
  refine codeAny_call_function room.depth (kin _ _ lk) rfl S.co S.gen rfl (PySem.W.codeRec_of kin hc) (bt _ _ _ _ ?_)
  refine wpAny_newFunctionEnv_cells S.kind kinds fun en he s2 x2 => ?_
  subst he
  refine ⟨nl.keeps x2.toInCall.keep, codeAny_func ?_⟩
  obtain ⟨t, ht, hz⟩ := body A out s H vs Q E g (room.deeper _) z
  have J : Inv (cxOf CX P w K mg base N qn sc fa cd A out s H E) [] (start N vs) H s2 := inv_start S room.hd e0 lv vu x2
  have done : ∀ {σ' : L2.St} {G : Hp} {v : V} {u : Value} {s' : Shared}, Inv (cxOf CX P w K mg base N qn sc fa cd A out s H E) [] σ' G s' → RelV v u → Q v G → CE out P w H s Q u s' := by
    intro σ' G v u s' I rv q
    exact ⟨v, G, I.os, I.bare, I.base, I.hok, rv, q⟩
  refine wpAny_mono (ht.run [] s2 (start N vs) H _ J hz) (fun fl s' hs => ?_) fun _ _ q => q
  cases fl with
  | ret u =>
    obtain ⟨v, σ', G, I, rv, q⟩ := hs
    exact done I rv q
  | next =>
    obtain ⟨σ', G, I, q⟩ := hs
    exact done (v := V.non) (u := Value.none) I rfl q
  | brk =>
    obtain ⟨_, _, _, q⟩ := hs
    exact q.elim
  | cont =>
    obtain ⟨_, _, _, q⟩ := hs
    exact q.elim
end
theorem fnD_okG {K : PySem.W.Frag} {x qn : Str} {pr : Arguments} {bd : List Stmt} {sc : Scope} {dvs : List V} {kws : List (Str × V)} {fa : Addr} {fd : FuncData} {P : Program} {w : World} {mg : Str → Option Value} {base : Heap} {CX : CXT} {N ps : List Str} {n : Nat} {sp : Sp} (F : FunD K x qn pr bd sc dvs kws fa fd) (S : FnScope N ps sc) (len : ∀ vs H Q E, sp vs H Q E → vs.length = ps.length)
    (body : ∀ (cd : Value) (A : Around) (out : List PySem.Env) (s : Shared) (H : Hp) (vs : List V) (Q : VK) (E : XK), A.guards = some [] → Room n (A.deeper (envOfC qn sc s.heap.objs.size fa cd)) → sp vs H Q E →
      ∃ t, PSs (cxOf CX P w K mg base N qn sc fa cd A out s H E) bd t ∧ t { nx := fun _ G => Q .non G, rt := Q } (start N vs) H) : FnG P w K mg base CX (n + 1) fa fd ps sp := by
  obtain ⟨_, _, _, _, _, _, _, _, _, _, rfl, lk, hc, _, _⟩ := F.ex
  exact fnG_of lk hc S len fun A out s H vs Q E g room z => body _ A out s H vs Q E g room z
section
variable {X : Cx} {CX : CXT} {n : Nat} {fa : Addr} {fd : FuncData} {ps ks : List Str} {sp : Sp} {dvs : List V} {ds : List Value} {E : L2.St → XK} {E1 : XK} {x : Str} {p pos : Pos} {e : Expr} {es : List Expr} {t tk : TA} {kws : List Keyword} {g : List Value → List Value → List Value} {gV : List V → List V → List V} {j : Nat}
theorem run_G {pins : List (Addr × Obj)} {σ : L2.St} {H : Hp} {s : Shared} {Q : VK} {us : List Value} {vs : List V} (G : X.A.guards = some []) (F : FnG X.prog X.w X.K X.mg X.base CX n fa fd ps sp) (room : Room n X.A) (bt : Binds X.K fd ps ds) (hd : Vals dvs ds) (out : PassesAt CX X σ (E σ))
    (I : Inv X pins σ H s) (r : Vals vs us) (z : sp (vs ++ dvs) H Q (E σ)) : wpAny (model X.prog X.w) X.A (call (.ref fa) us) (EP X pins σ Q) X.xe s := by
  have rr : Vals (vs ++ dvs) (us ++ ds) := r.append hd
  have ll : (us ++ ds).length = ps.length := rr.length.symm.trans (F.len _ _ _ _ z)
  refine wpAny_call (codeAny_mono (F.go X.A X.stack s H ⟨us, []⟩ (us ++ ds) (vs ++ dvs) Q (E σ) G room I.env0 (bt s us I.kIn ll) rr z) fun re s' hq => ?_)
  match re, hq with
  | .error er, hq => exact out pins H s er s' I hq
  | .ok (.ret u), hq => exact I.after hq
  | .ok .next, hq => exact hq.elim
  | .ok .brk, hq => exact hq.elim
  | .ok .cont, hq => exact hq.elim
/-- f(e, ..) -/
theorem pe_callG (G : X.A.guards = some []) (F : FnG X.prog X.w X.K X.mg X.base CX n fa fd ps sp) (room : Room n X.A) (hg : Gl X x) (hm : X.mg x = some (.ref fa)) (hk : PySem.W.keepIn X.K (.ref fa) = true) (bt : Binds X.K fd ps ds) (hd : Vals dvs ds) (out : ∀ σ, PassesAt CX X σ (E σ))
    (ha : PA X (e :: es) t) (hdb : (x == ("__debug__" : Str)) = false := by decide) (he : starEach (e :: es) X.env = (false, eval e X.env) :: starEach es X.env := by rfl) (hpl : (backTo pos (starEach es X.env)).any (·.1) = false := by rfl) :
    PE X (.Call (.Name x p) (e :: es) [] pos) (tCallSD sp dvs E t) where
  run := fun pins s σ H Q I h => by
    refine wpAny_Call_Name_kw (ld_glob I hg hm (PySem.W.callWith_K (h₀ := X.base) I.ok.mod.kin hk (thn (ha.run pos pins s σ H _ I h) ?_) he hpl) hdb)
    rintro us s1 ⟨vs, H1, I1, r, q⟩
    exact ⟨I1.kIn, run_G G F room bt hd (out σ) I1 r q⟩
theorem run_GN {pins : List (Addr × Obj)} {σ : L2.St} {H : Hp} {s : Shared} {Q : VK} {us ws : List Value} {vs zs : List V} (G : X.A.guards = some []) (F : FnG X.prog X.w X.K X.mg X.base CX n fa fd ps sp) (room : Room n X.A) (bt : KBn X.K fd ps j ks g gV) (out : Passes CX X E1)
    (I : Inv X pins σ H s) (r : Vals vs us) (rz : Vals zs ws) (l1 : vs.length = j) (l2 : zs.length = ks.length) (z : sp (gV vs zs) H Q E1) : wpAny (model X.prog X.w) X.A (call (.ref fa) us (ks.zip ws)) (EP X pins σ Q) X.xe s := by
  have b := bt.to s us ws I.kIn (r.length.symm.trans l1) (rz.length.symm.trans l2)
  refine wpAny_call (codeAny_mono (F.go X.A X.stack s H ⟨us, ks.zip ws⟩ (g us ws) (gV vs zs) Q E1 G room I.env0 b (bt.rel r rz) z) fun re s' hq => ?_)
  match re, hq with
  | .error er, hq => exact out pins σ H s er s' I hq
  | .ok (.ret u), hq => exact I.after hq
  | .ok .next, hq => exact hq.elim
  | .ok .brk, hq => exact hq.elim
  | .ok .cont, hq => exact hq.elim
/-- f(e, .., k = v, ..) -/
theorem pe_callGN (G : X.A.guards = some []) (F : FnG X.prog X.w X.K X.mg X.base CX n fa fd ps sp) (room : Room n X.A) (hg : Gl X x) (hm : X.mg x = some (.ref fa)) (hk : PySem.W.keepIn X.K (.ref fa) = true) (bt : KBn X.K fd ps j ks g gV) (out : Passes CX X E1)
    (ha : PA X (e :: es) t) (hkw : PK X kws tk) (hall : (backToKw pos (keywordEach kws X.env)).all (·.1.isSome) = true := by rfl) (hks : (backToKw pos (keywordEach kws X.env)).filterMap (·.1) = ks := by rfl)
    (hdb : (x == ("__debug__" : Str)) = false := by decide) (he : starEach (e :: es) X.env = (false, eval e X.env) :: starEach es X.env := by rfl)
    (hpl : ((backTo pos (starEach (e :: es) X.env)).any (·.1) || (backToKw pos (keywordEach kws X.env)).any (·.1.isNone)) = false := by rfl) : PE X (.Call (.Name x p) (e :: es) kws pos) (tCallN j ks.length sp gV E1 t tk) where
  run := fun pins s σ H Q I h => by
    refine wpAny_Call_Name_kw (ld_glob I hg hm (PySem.W.callWith_KW (h₀ := X.base) I.ok.mod.kin hk hall (thn (ha.run pos pins s σ H _ I h) ?_) hpl he) hdb)
    rintro us s1 ⟨vs, H1, I1, r, q⟩
    refine thn (hkw.run pos pins s1 σ H1 _ I1 q) ?_
    rintro ws s2 ⟨zs, H2, I2, rz, l1, l2, q2⟩
    refine ⟨I2.kIn, ?_⟩
    rw [hks]
    exact run_GN G F room bt out I2 r rz l1 l2 q2
end
/-! ### the head -/
section
variable {P : Program} {w : World} {K : PySem.W.Frag} {mg mb : Str → Option Value} {CX : CXT} {n : Nat} {fa a : Addr} {fd : FuncData} {x : Str} {sp : Sp} {s : Shared} {us : List Value} {ns : List Int}
/-- what the law's call is to end with -/
abbrev LawEnd (s : Shared) : Result → Shared → Prop := fun r s' => r = .ok (.ret (.bool true)) ∧ OldK s.heap s'.heap ∧ s'.os = s.os ∧ AllBare s'.gens
/-- with the script as the only thing that is told -/
theorem headG1 (H : Hp) (kin : K.In s.heap) (hns : s.heap.Ns mainGlobals mg) (hb : s.heap.Ns builtinsNs mb) (hbb : ∀ x : Str, x ≠ "__name__" → mb x = bootBuiltins x) (nl : s.heap.NoLimit) (hg : s.gens = #[])
    (ha : s.heap.get? a = some { cls := .type "list", data := .seq us.toArray }) (room : Room n callerA) (F : ∀ base : Heap, K.In base → base.Ns mainGlobals mg → FnG P w K mg base CX n fa fd [x] sp) (bt : ∀ (s : Shared) (u : Value), BindsTo s fd ⟨[u], []⟩ [(x, u)])
    (z : sp [.ref a] H (fun v _ => v = .bl true) fun _ _ _ => False) (hCX : ∀ e s', CX [] H s (fun _ _ _ => False) e s' → False) (only : Only H) (hok : HOk P w H s.heap) (one : ∀ b, H b ≠ none → b = a) (own : H a ≠ none → K.lookup a = none) :
    codeAny (model P w) callerA (.call (.ref fa) ⟨[.ref a], []⟩) (LawEnd s) s := by
  have see : ∀ {b : Addr} {o : Obj}, s.heap.get? b = some o → H b = none → (hidT s.heap H).get? b = some o := fun q q2 => hidT_get q q2
  have dict : ∀ {b : Addr} {o : Obj} {es : Array DictEntry} {k : Nat}, s.heap.get? b = some o → o.data = .dict es k → H b = none := by
    intro b o es k q d
    by_cases hn : H b = none
    · exact hn
    · have := one b hn
      subst this
      rw [ha] at q
      cases q
      exact absurd (show Data.seq us.toArray _ = Data.dict es k from d) (by intro y; cases y)
  have names : ∀ {b : Addr} {m : Str → Option Value}, s.heap.Ns b m → (hidT s.heap H).Ns b m := by
    rintro b m ⟨o, es, k, q, d, r⟩
    exact ⟨o, es, k, see q (dict q d), d, r⟩
  have kinB : K.In (hidT s.heap H) := by
    intro b o q
    refine see (kin b o q) ?_
    by_cases hn : H b = none
    · exact hn
    · have := one b hn
      subst this
      rw [own hn] at q
      cases q
  obtain ⟨mc, c1, c2⟩ := nl
  have mods : Mod K mg (hidT s.heap H) := ⟨kinB, names hns, ⟨mb, names hb, hbb⟩, ⟨mc, names c1, c2⟩⟩
  have e0 : Env0 P w K mg (hidT s.heap H) callerA [] s H :=
    { frames := rfl, mod := mods, bs := fun b o q => of_hidT q, bsz := Nat.le_of_eq (hidT_size _ _), funs := trivial, frf := fun b y => absurd (show b ∈ ([] : List Addr) from y) List.not_mem_nil, hok := hok, bare := .of_eq hg }
  have run := (F _ kinB (names hns)).go callerA [] s H ⟨[.ref a], []⟩ [.ref a] [.ref a] _ _ rfl room e0 (bt s (.ref a)) (.cons rfl .nil) z
  refine codeAny_mono run fun re s' h => ?_
  match re, h with
  | .error er, h => exact (hCX er s' h).elim
  | .ok .next, h => exact h.elim
  | .ok .brk, h => exact h.elim
  | .ok .cont, h => exact h.elim
  | .ok (.ret u), h =>
    obtain ⟨v, H2, hos, hbare, un, hok2, rv, q⟩ := h
    have q : v = .bl true := q
    subst q
    have rv : u = Value.bool true := rv
    subst rv
    refine ⟨rfl, OldK.of_keep fun b o y => ?_, hos, hbare⟩
    by_cases hn : H b = none
    · exact un.keep b o y hn (fun y2 => absurd (show b ∈ ([] : List Addr) from y2) List.not_mem_nil) List.not_mem_nil
    · rcases only b with y2 | ⟨ob, xs, y2⟩
      · exact absurd y2 hn
      · obtain ⟨k1, _⟩ := hok b _ y2
        obtain ⟨k2, _⟩ := hok2 b _ (un.frzs b ob _ y2)
        rw [y] at k1
        cases k1
        exact k2
theorem headG (kin : K.In s.heap) (hns : s.heap.Ns mainGlobals mg) (hb : s.heap.Ns builtinsNs mb) (hbb : ∀ x : Str, x ≠ "__name__" → mb x = bootBuiltins x) (nl : s.heap.NoLimit) (hg : s.gens = #[])
    (ha : s.heap.get? a = some { cls := .type "list", data := .seq us.toArray }) (hi : IntsAre us ns) (hl : ns.length ≤ sizeLine) (room : Room n callerA) (F : ∀ base : Heap, K.In base → base.Ns mainGlobals mg → FnG P w K mg base CX n fa fd [x] sp) (bt : ∀ (s : Shared) (u : Value), BindsTo s fd ⟨[u], []⟩ [(x, u)])
    (hsp : ∀ H : Hp, Only H → SqL K H a (ns.map V.int) → sp [.ref a] H (fun v _ => v = .bl true) fun _ _ _ => False) (hCX : ∀ H e s', CX [] H s (fun _ _ _ => False) e s' → False) :
    codeAny (model P w) callerA (.call (.ref fa) ⟨[.ref a], []⟩) (LawEnd s) s := by
  have vu := vals_ints hi
  have lu := hi.length
  cases hk : K.lookup a with
  | some o =>
    have y := kin a o hk
    rw [ha] at y
    cases y
    have q : SqL K (fun _ => none) a (ns.map V.int) := Or.inr ⟨_, us.toArray, _, hk, rfl, rfl, rfl, by rw [List.size_toArray, lu]; exact hl, by simpa using vu⟩
    exact headG1 (fun _ => none) kin hns hb hbb nl hg ha room F bt (hsp _ (fun _ => Or.inl rfl) q) (hCX _) (fun _ => Or.inl rfl) (fun b u y => by cases y) (fun b y => absurd rfl y) fun y => absurd rfl y
  | none =>
    let H : Hp := upd (fun _ => none) a (.frz { cls := .type "list", data := .seq us.toArray } (.lst (ns.map V.int)))
    have at_a : H a = some (.frz { cls := .type "list", data := .seq us.toArray } (.lst (ns.map V.int))) := upd_same
    have off : ∀ {b : Addr}, b ≠ a → H b = none := fun y => upd_ne y
    have only : Only H := fun b => by
      by_cases y : b = a
      · subst y
        exact Or.inr ⟨_, _, at_a⟩
      · exact Or.inl (off y)
    refine headG1 H kin hns hb hbb nl hg ha room F bt (hsp H only (Or.inl (Or.inr ⟨_, at_a⟩))) (hCX H) only (fun b u y => ?_) (fun b y => ?_) fun _ => hk
    · by_cases q : b = a
      · subst q
        rw [at_a] at y
        cases y
        exact ⟨ha, by rw [List.length_map]; exact hl, us, _, vu, ha⟩
      · rw [off q] at y
        cases y
    · by_cases q : b = a
      · exact q
      · exact absurd (off q) y
end
theorem walkG {l : PySem.W.OpenLaw} {n k : Nat} {q : Program} {loose : List Str} {XP : (Str → Option Value) → Heap → Prop} {YP : World → Heap → Prop} {d : DefRec} {K : Params → PySem.W.Frag} {CX : World → CXT} {sp : World → Sp} {x : Str}
    (hn : l.most = some n) (h2 : n ≤ sizeLine) (hdf : d.params.defaults = []) (room : Room k callerA) (hY : ∀ (w : World) (h : Heap), YP w h → (K w.params).In h)
    (F : ∀ (w : World) (mg : Str → Option Value) (fa : Addr) (h : Heap), (K w.params).In h → h.Ns mainGlobals mg → mg d.name = some (.ref fa) →
      ∃ fd : FuncData, (∀ (s : Shared) (u : Value), BindsTo s fd ⟨[u], []⟩ [(x, u)]) ∧ ∀ base : Heap, (K w.params).In base → base.Ns mainGlobals mg → FnG l.prog w (K w.params) mg base (CX w) k fa fd [x] (sp w))
    (hsp : ∀ (w : World) (H : Hp) (a : Addr) (ns : List Int), ns.length ≤ n → Only H → SqL (K w.params) H a (ns.map V.int) → sp w [.ref a] H (fun v _ => v = .bl true) fun _ _ _ => False)
    (hCX : ∀ (w : World) (H : Hp) (s : Shared) (e : Value) (s' : Shared), CX w [] H s (fun _ _ _ => False) e s' → False) : PySem.W.WalkO q loose XP YP l.row.toRowW d [] (fun f vs => PySem.call f vs) := by
  refine Att.attach_call hn hdf ?_
  intro w s0 s mg mb fa o pm cd doc a us ns G Y _ _ _ hmg ha hi hl hg
  have kin := hY w _ Y
  obtain ⟨fd, bt, hF⟩ := F w mg fa _ kin G.T.g hmg
  exact headG kin G.T.g G.T.b G.T.builtins G.T.nolimit hg ha hi (Nat.le_trans hl h2) room hF bt (fun H h3 h4 => hsp w H a ns hl h3 h4) fun H e s' => hCX w H s e s'
/-! ### repr -/
def rRepr (K : PySem.W.Frag) : List V → Hp → VK → Prop := fun xs H Q => ∃ x d, xs = [x] ∧ Dp K H x d ∧ d.showable = true ∧ d.hasDict = false ∧ d.depth ≤ 60 ∧ d.shown.length ≤ sizeLine ∧ Q (.str d.shown) H
theorem call_repr {X : Cx} (G : X.A.guards = some []) (hu : X.A.units + 64 < cLine) : CallR X (.builtin "repr") (rRepr X.K) := by
  rintro pins s σ H xs us Q I rv ⟨x, d, rfl, hd, sh, nd, dp, sz, q⟩
  obtain ⟨u, rfl, ru⟩ : ∃ u, us = [u] ∧ RelV x u := by
    cases rv with
    | cons h t =>
      cases t
      exact ⟨_, rfl, h⟩
  obtain ⟨as, rd⟩ := Dp.reads I d x u hd ru
  have fin : EP X pins σ Q (.str d.shown s.toks) { s with toks := s.toks + 1 } := ⟨.str _, H, I.tok _, ⟨_, rfl⟩, q⟩
  cases rd with
  | none => exact PySem.P.repr_of_none fin
  | bool b => exact PySem.P.repr_of_bool fin
  | int i t => exact PySem.P.repr_of_int (of_decide_eq_true sh) fin
  | str x t => exact PySem.P.repr_of_str fin sz
  | list h1 h2 h3 h4 => exact repr_of_reads' (.list h1 h2 h3 h4) sh (PyData.noDict_hsm nd) G (by omega) (fun _ _ e => e) (fun h' u tk hk => ⟨.str _, H, I.kept hk, ⟨_, rfl⟩, q⟩) sz
  | tuple h1 h2 h3 h4 => exact repr_of_reads' (.tuple h1 h2 h3 h4) sh (PyData.noDict_hsm nd) G (by omega) (fun _ _ e => e) (fun h' u tk hk => ⟨.str _, H, I.kept hk, ⟨_, rfl⟩, q⟩) sz
  | dict h1 h2 h3 h4 h5 => exact repr_of_reads' (.dict h1 h2 h3 h4 h5) sh (PyData.noDict_hsm nd) G (by omega) (fun _ _ e => e) (fun h' u tk hk => ⟨.str _, H, I.kept hk, ⟨_, rfl⟩, q⟩) sz
noncomputable def oRepr (d : D) : Option D := match toPy d with
  | none => none
  | some a => if a.showable = true ∧ a.hasDict = false ∧ a.depth ≤ 60 ∧ a.shown.length < tooLong then some (.str a.shown) else none
theorem o1_repr {S : Type} {J : Jc S} {ρ : Env} {K : PySem.W.Frag} : Op1 J ρ (rRepr K) oRepr := fun σ G s H L x d z o rx hz Q q => by
  unfold oRepr at hz
  cases e : toPy d with
  | none => rw [e] at hz; cases hz
  | some a =>
    rw [e] at hz
    dsimp only at hz
    split at hz
    · rename_i hc
      cases hz
      exact ⟨x, a, rfl, rX.dp o rx e, hc.1, hc.2.1, hc.2.2.1, long_ok hc.2.2.2, q _ G H (Same.refl _) o (.str _)⟩
    · cases hz
theorem call_reprK {X : Cx} {K : PySem.W.Frag} (h : X.K = K) (G : X.A.guards = some []) (hu : X.A.units + 64 < cLine) : CallR X (.builtin "repr") (rRepr K) := h ▸ call_repr G hu
end Dm

set_option Elab.async false
set_option linter.all false
set_option maxRecDepth 100000
set_option maxHeartbeats 2000000
namespace Dm
open PySem PySem.Spec PyProof.Rows L2
/-! ### x is True, x is False -/
theorem rel_bl {x : V} {b : Bool} (r : RelV x (Value.bool b)) : x = .bl b := by
  cases x with
  | bl c =>
    have r : Value.bool b = Value.bool c := r
    cases r
    rfl
  | non => cases (show Value.bool b = Value.none from r)
  | int i => obtain ⟨t, r⟩ := (show ∃ t, Value.bool b = Value.int i t from r); cases r
  | str i => obtain ⟨t, r⟩ := (show ∃ t, Value.bool b = Value.str i t from r); cases r
  | byt i => obtain ⟨t, r⟩ := (show ∃ t, Value.bool b = Value.bytes i t from r); cases r
  | flt i => obtain ⟨t, r⟩ := (show ∃ t, Value.bool b = Value.float i t from r); cases r
  | ref i => cases (show Value.bool b = Value.ref i from r)
  | ty i => cases (show Value.bool b = Value.type i from r)
theorem plain_bool {x : V} {v : Value} (b : Bool) (r : RelV x v) : PySem.plainIs v (Value.bool b) = true := by
  cases x with
  | non => rw [show v = Value.none from r]; rfl
  | bl c => rw [show v = Value.bool c from r]; rfl
  | int i => obtain ⟨t, r⟩ := (show ∃ t, v = Value.int i t from r); rw [r]; rfl
  | str i => obtain ⟨t, r⟩ := (show ∃ t, v = Value.str i t from r); rw [r]; rfl
  | byt i => obtain ⟨t, r⟩ := (show ∃ t, v = Value.bytes i t from r); rw [r]; rfl
  | flt i => obtain ⟨t, r⟩ := (show ∃ t, v = Value.float i t from r); rw [r]; rfl
  | ref i => rw [show v = Value.ref i from r]; rfl
  | ty i => rw [show v = Value.type i from r]; rfl
theorem op_isBool {X : Cx} : OpR X (compareOp .Is) (fun x y H Q => ∃ b, y = .bl b ∧ Q (.bl (decide (x = .bl b))) H) := by
  rintro pins s σ H x y v u Q I rx ry ⟨b, rfl, q⟩
  have hu : u = Value.bool b := ry
  subst hu
  by_cases e : v = Value.bool b
  · subst e
    have ex := rel_bl rx
    subst ex
    exact wpAny_is_self rfl ⟨.bl true, H, I, rfl, by simpa using q⟩
  · have ne : x ≠ .bl b := fun z => e (by subst z; exact rx)
    exact wpAny_is_other (plain_bool b rx) e ⟨.bl false, H, I, rfl, by rw [decide_eq_false ne] at q; exact q⟩
def isBl (b : Bool) : D → Bool
  | .bl c => c == b
  | _ => false
def oIsB (a : D) : D → Option D
  | .bl b => some (.bl (isBl b a))
  | _ => none
theorem o2_isB {S : Type} {J : Jc S} {ρ : Env} : Op2 J ρ (fun x y H Q => ∃ b, y = .bl b ∧ Q (.bl (decide (x = .bl b))) H) oIsB := fun σ G s H L x y d e z o rx ry hz Q q => by
  cases e with
  | bl b =>
    cases hz
    refine ⟨b, rX.bl ry, ?_⟩
    have hd : decide (x = .bl b) = isBl b d := by
      cases d with
      | bl c =>
        rw [rX.bl rx]
        unfold isBl
        by_cases h : c = b
        · subst h
          simp
        · simp [h]
      | non => rw [rX.non rx]; exact decide_eq_false (by intro z; cases z)
      | int i => rw [rX.int rx]; exact decide_eq_false (by intro z; cases z)
      | str i => rw [rX.str rx]; exact decide_eq_false (by intro z; cases z)
      | lst ds => obtain ⟨a, _, rfl, _⟩ := rX.lst o rx; exact decide_eq_false (by intro z; cases z)
      | tup ds => obtain ⟨a, _, rfl, _⟩ := rX.tup o rx; exact decide_eq_false (by intro z; cases z)
      | dct ds => obtain ⟨a, rfl, _⟩ := rX.dct o rx; exact decide_eq_false (by intro z; cases z)
      | obj c ds => obtain ⟨a, _, _, rfl, _⟩ := rX.obj o rx; exact decide_eq_false (by intro z; cases z)
      | lnt ds => obtain ⟨a, _, _, rfl, _⟩ := rX.lnt o rx; exact decide_eq_false (by intro z; cases z)
    rw [hd]
    exact q _ G H (Same.refl _) o (.bl _)
  | _ => cases hz
end Dm

set_option Elab.async false
set_option linter.all false
set_option maxRecDepth 100000
set_option maxHeartbeats 2000000
namespace Dm
open PySem PySem.Spec PyProof.Rows L2
/-! ### mathematics of mirrors: lists, walks, data -/
theorem atI_mem {ds : List D} {p : Int} (h0 : 0 ≤ p) (h1 : p < ds.length) : ∃ d, d ∈ ds ∧ oIx (.lst ds) (.int p) = some d := by
  obtain ⟨k, rfl⟩ := Int.eq_ofNat_of_zero_le h0
  have hk : k < ds.length := by omega
  refine ⟨ds[k], List.getElem_mem hk, ?_⟩
  show atI ds (k : Int) = _
  exact atI_nat (List.getElem?_eq_getElem hk)
theorem rg1_ok {n : Int} (h0 : 0 ≤ n) (h1 : n < 1000) : rg1 [.int n] = some (rgD 0 n.toNat) := by
  show (if n.natAbs < 2305843009213693952 then some (rgD 0 n.toNat) else none) = _
  exact if_pos (by omega)
theorem mkL_ok {ds : List D} (h : ds.length < 1000000) : mkL ds = some ds := if_pos h
def Pl : D → Prop
  | .obj _ _ => False
  | _ => True
def isCol : D → Bool
  | .int k => decide (0 ≤ k) && decide (k ≤ 99)
  | _ => false
def badAt : Nat → List D → Option Nat
  | _, [] => none
  | n, d :: ds => if isCol d = true then badAt (n + 1) ds else some n
def opt : Option Nat → D
  | none => .non
  | some n => .int (n : Int)
theorem badAt_none : ∀ {ds : List D} {n : Nat}, (∀ d ∈ ds, isCol d = true) → badAt n ds = none
  | [], _, _ => rfl
  | d :: ds, n, h => by
    unfold badAt
    rw [if_pos (h d (by simp))]
    exact badAt_none fun d hd => h d (by simp [hd])
theorem tuple_ok {d : D} {ds : List D} (hd : items d = some ds) : oTuple d = some (.tup ds) := by
  unfold oTuple
  rw [hd]
  rfl
theorem len_ok {d : D} {ds : List D} (hd : items d = some ds) : oLen d = some (.int ds.length) := by
  cases d <;> first | (cases hd; rfl) | cases hd
theorem lcM_retI {S τ ι : Type} {un : D → Option τ} {c : τ → MS S Bool} {f : τ → MS S D} {e : ι → τ} {p : ι → Bool} {g : ι → D} : ∀ {ts : List ι} {ds : List D}, ds.map un = ts.map (fun t => some (e t)) → (∀ t ∈ ts, c (e t) = ret (p t)) → (∀ t ∈ ts, p t = true → f (e t) = ret (g t)) → lcM un c f ds = ret ((ts.filter p).map g)
  | [], [], _, _, _ => rfl
  | [], d :: ds, e, _, _ => by cases e
  | t :: ts, [], e, _, _ => by cases e
  | t :: ts, d :: ds, h, hc, hf => by
    rw [List.map_cons, List.map_cons] at h
    have e1 : un d = some (e t) := (List.cons.inj h).1
    have ih := lcM_retI (c := c) (f := f) (e := e) (p := p) (g := g) (List.cons.inj h).2 (fun t ht => hc t (by simp [ht])) (fun t ht => hf t (by simp [ht]))
    show (bnd (lft (un d)) fun t => bnd (nex (c t)) fun b => if b = true then bnd (nex (f t)) fun y => bnd (lcM un c f ds) fun ys => ret (y :: ys) else lcM un c f ds) = _
    rw [e1, lft_some, bnd_ret, hc t (by simp), nex_ret, bnd_ret, ih]
    cases hp : p t with
    | false => rw [if_neg Bool.false_ne_true, List.filter_cons_of_neg (by rw [hp]; exact Bool.false_ne_true)]
    | true =>
      rw [if_pos rfl, hf t (by simp) hp, nex_ret, bnd_ret, bnd_ret, List.filter_cons_of_pos hp]
      rfl
/-- items with their places -/
def idx : Nat → List Int → List (Nat × Int)
  | _, [] => []
  | n, c :: r => (n, c) :: idx (n + 1) r
theorem idx_len : ∀ (n : Nat) (r : List Int), (idx n r).length = r.length
  | _, [] => rfl
  | n, _ :: r => congrArg Nat.succ (idx_len (n + 1) r)
theorem idx_at {cs : List Int} : ∀ (r pre : List Int), cs = pre ++ r → ∀ t ∈ idx pre.length r, cs[t.1]? = some t.2
  | [], _, _, t, h => nomatch h
  | c :: r, pre, e, t, h => by
    rcases List.mem_cons.mp h with h | h
    · subst h
      rw [e]
      simp
    · refine idx_at r (pre ++ [c]) (by rw [e, List.append_assoc]; rfl) t ?_
      rw [List.length_append]
      exact h
/-- struck: what differs from the one before it -/
def dd : Option Int → List Int → List Int
  | _, [] => []
  | none, c :: r => c :: dd (some c) r
  | some p, c :: r => if c = p then dd (some c) r else c :: dd (some c) r
/-- is the item at t.1 kept -/
def keepAt (cs : List Int) (t : Nat × Int) : Bool := t.1 == 0 || !(decide (cs[t.1 - 1]? = some t.2))
theorem kept {cs : List Int} : ∀ (r pre : List Int), cs = pre ++ r → ((idx pre.length r).filter (keepAt cs)).map Prod.snd = dd pre.getLast? r
  | [], _, _ => rfl
  | c :: r, pre, e => by
    have ih := kept (cs := cs) r (pre ++ [c]) (by rw [e, List.append_assoc]; rfl)
    rw [List.length_append, List.getLast?_append] at ih
    have ih : ((idx (pre.length + 1) r).filter (keepAt cs)).map Prod.snd = dd (some c) r := ih
    show (((pre.length, c) :: idx (pre.length + 1) r).filter (keepAt cs)).map Prod.snd = _
    cases hp : pre.getLast? with
    | none =>
      have e0 : pre = [] := List.getLast?_eq_none_iff.mp hp
      rw [List.filter_cons_of_pos (by rw [e0]; rfl), List.map_cons, ih]
      rfl
    | some p =>
      have e1 : cs[pre.length - 1]? = some p := by
        rw [e, List.getElem?_append_left (by
          cases pre with
          | nil => cases hp
          | cons a l => simp), ← List.getLast?_eq_getElem?]
        exact hp
      have l0 : (pre.length == 0) = false := by
        cases pre with
        | nil => cases hp
        | cons a l => rfl
      have ek : keepAt cs (pre.length, c) = !decide (p = c) := by
        show (pre.length == 0 || !(decide (cs[pre.length - 1]? = some c))) = _
        rw [l0, e1, Bool.false_or]
        simp
      show _ = if c = p then dd (some c) r else c :: dd (some c) r
      by_cases q : c = p
      · rw [if_pos q, List.filter_cons_of_neg (by rw [ek]; simp [q]), ih]
      · rw [if_neg q, List.filter_cons_of_pos (by rw [ek]; simp [Ne.symm q]), List.map_cons, ih]
theorem dd_idem : ∀ (o : Option Int) (r : List Int), dd o (dd o r) = dd o r
  | none, [] => rfl
  | some _, [] => rfl
  | none, c :: r => by
    show c :: dd (some c) (dd (some c) r) = _
    rw [dd_idem (some c) r]
    rfl
  | some p, c :: r => by
    show dd (some p) (if c = p then dd (some c) r else c :: dd (some c) r) = if c = p then dd (some c) r else c :: dd (some c) r
    by_cases q : c = p
    · rw [if_pos q, ← q, dd_idem (some c) r]
    · rw [if_neg q]
      show (if c = p then _ else c :: dd (some c) (dd (some c) r)) = _
      rw [if_neg q, dd_idem (some c) r]
theorem numb_un2 : ∀ (n : Nat) (r : List Int), (numb n (r.map D.int)).map un2 = (idx n r).map fun t => some (D.int (t.1 : Int), D.int t.2)
  | _, [] => rfl
  | n, c :: r => by
    show some (D.int (n : Int), D.int c) :: (numb (n + 1) (r.map D.int)).map un2 = _
    rw [numb_un2 (n + 1) r]
    rfl
theorem rg_idx : ∀ (r : List Int) (n : Nat), (List.range' n r.length).map (fun (i : Nat) => D.int (i : Int)) = (idx n r).map fun t => D.int (t.1 : Int)
  | [], _ => rfl
  | c :: r, n => by
    rw [List.length_cons, List.range'_succ, List.map_cons, rg_idx r (n + 1)]
    rfl
theorem rgD_idx (cs : List Int) : rgD 0 cs.length = (idx 0 cs).map fun t => D.int (t.1 : Int) := by
  rw [← rg_idx cs 0, ← List.range_eq_range']
  unfold rgD
  refine List.map_congr_left fun i _ => ?_
  rw [Int.zero_add]
theorem ix_ok {d : D} {cs : List Int} {i : Nat} {c : Int} (hd : items d = some (cs.map D.int)) (h : cs[i]? = some c) : oIx d (.int (i : Int)) = some (.int c) := by
  have e : (cs.map D.int)[i]? = some (.int c) := by rw [List.getElem?_map, h]; rfl
  cases d with
  | lst ds =>
    cases hd
    exact L2.atI_nat e
  | tup ds =>
    cases hd
    exact L2.atI_nat e
  | lnt ds =>
    cases hd
    exact L2.atI_nat e
  | _ => cases hd
theorem keep_pos {cs : List Int} {t : Nat × Int} {p : Int} (h0 : t.1 ≠ 0) (h : cs[t.1 - 1]? = some p) : keepAt cs t = !decide (p = t.2) := by
  unfold keepAt
  rw [h]
  have : (t.1 == 0) = false := by simpa using h0
  rw [this, Bool.false_or]
  simp
/-- the earliest places of the row in w, whose first item has the place n -/
def gp : Nat → List Int → List Int → Option (List Nat)
  | _, [], _ => some []
  | _, _ :: _, [] => none
  | n, t :: ts, c :: w => if c = t then (gp (n + 1) ts w).map (n :: ·) else gp (n + 1) (t :: ts) w
/-- the program's walk -/
def fp (row : List Int) : Nat → List Int → List Nat → List Nat
  | _, [], acc => acc
  | n, c :: w, acc => if row[acc.length]? = some c then fp row (n + 1) w (acc ++ [n]) else fp row (n + 1) w acc
theorem fp_gp (row : List Int) : ∀ (w : List Int) (n : Nat) (acc : List Nat), acc.length ≤ row.length → (match gp n (row.drop acc.length) w with | some g => fp row n w acc = acc ++ g ∧ g.length + acc.length = row.length | none => (fp row n w acc).length < row.length)
  | [], n, acc, h => by
    by_cases e : acc.length = row.length
    · rw [List.drop_eq_nil_of_le (by omega)]
      exact ⟨(List.append_nil _).symm, by simpa using e⟩
    · obtain ⟨a, l, e2⟩ : ∃ a l, row.drop acc.length = a :: l := by
        cases q : row.drop acc.length with
        | nil =>
          have := List.drop_eq_nil_iff.mp q
          omega
        | cons a l => exact ⟨a, l, rfl⟩
      rw [e2]
      show acc.length < row.length
      omega
  | c :: w, n, acc, h => by
    by_cases e : acc.length = row.length
    · have ih := fp_gp row w (n + 1) acc h
      rw [List.drop_eq_nil_of_le (by omega)] at ih ⊢
      have e1 : row[acc.length]? = none := List.getElem?_eq_none (by omega)
      have e2 : fp row n (c :: w) acc = fp row (n + 1) w acc := by
        show (if row[acc.length]? = some c then _ else _) = _
        rw [e1, if_neg (by intro q; cases q)]
      rw [e2]
      cases w <;> exact ih
    · have hl : acc.length < row.length := by omega
      have e2 : row.drop acc.length = row[acc.length] :: row.drop (acc.length + 1) := List.drop_eq_getElem_cons hl
      have e1 : row[acc.length]? = some row[acc.length] := List.getElem?_eq_getElem hl
      rw [e2]
      by_cases q : c = row[acc.length]
      · have ih := fp_gp row w (n + 1) (acc ++ [n]) (by rw [List.length_append]; exact hl)
        have e3 : fp row n (c :: w) acc = fp row (n + 1) w (acc ++ [n]) := by
          show (if row[acc.length]? = some c then _ else _) = _
          rw [e1, if_pos (by rw [q])]
        rw [List.length_append, List.length_singleton] at ih
        rw [e3]
        show match (if c = row[acc.length] then (gp (n + 1) (row.drop (acc.length + 1)) w).map (n :: ·) else _) with | some g => _ | none => _
        rw [if_pos q]
        cases hg : gp (n + 1) (row.drop (acc.length + 1)) w with
        | none =>
          rw [hg] at ih
          exact ih
        | some g =>
          rw [hg] at ih
          refine ⟨by rw [ih.1, List.append_assoc]; rfl, ?_⟩
          have := ih.2
          show (n :: g).length + acc.length = _
          rw [List.length_cons]
          omega
      · have ih := fp_gp row w (n + 1) acc h
        rw [e2] at ih
        have e3 : fp row n (c :: w) acc = fp row (n + 1) w acc := by
          show (if row[acc.length]? = some c then _ else _) = _
          rw [e1, if_neg (by intro z; exact q (Option.some.inj z).symm)]
        rw [e3]
        show match (if c = row[acc.length] then _ else gp (n + 1) (row[acc.length] :: row.drop (acc.length + 1)) w) with | some g => _ | none => _
        rw [if_neg q]
        exact ih
def optL : Option (List Nat) → D
  | none => .non
  | some g => .tup (g.map fun (n : Nat) => .int (n : Int))
theorem toPys_ints : ∀ cs : List Int, toPys (cs.map D.int) = some (cs.map PyData.int)
  | [] => rfl
  | c :: cs => by
    rw [List.map_cons]
    unfold toPys
    rw [toPys_ints cs]
    rfl
theorem lay_ints : ∀ cs : List Int, PyData.canLayAll0 (cs.map PyData.int) = true
  | [] => by simp [PyData.canLayAll0]
  | c :: cs => by simp [PyData.canLayAll0, PyData.canLay0, lay_ints cs]
theorem depth_ints : ∀ cs : List Int, PyData.depthAll (cs.map PyData.int) = 0
  | [] => by simp [PyData.depthAll]
  | c :: cs => by simp [PyData.depthAll, PyData.depth, depth_ints cs]
theorem eqv_ints : ∀ cs ds : List Int, PyData.eqvAll (cs.map PyData.int) (ds.map PyData.int) = decide (cs = ds)
  | [], [] => by simp [PyData.eqvAll]
  | [], d :: ds => by simp [PyData.eqvAll]
  | c :: cs, [] => by simp [PyData.eqvAll]
  | c :: cs, d :: ds => by
    simp only [List.map_cons, PyData.eqvAll, PyData.eqv, eqv_ints cs ds]
    by_cases h : c = d
    · subst h
      simp
    · simp [h]
theorem eqD_lst (cs ds : List Int) : eqD (.lst (cs.map D.int)) (.lst (ds.map D.int)) = some (decide (cs = ds)) := by
  show eqD0 (.lst (cs.map D.int)) (.lst (ds.map D.int)) = _
  unfold eqD0 toPy
  rw [toPys_ints, toPys_ints]
  simp [SeqAt.shaped, PyData.canLay0, PyData.depth, lay_ints, depth_ints, PyData.eqv, eqv_ints]
theorem eqD_tup (cs ds : List Int) : eqD (.tup (cs.map D.int)) (.tup (ds.map D.int)) = some (decide (cs = ds)) := by
  show eqD0 (.tup (cs.map D.int)) (.tup (ds.map D.int)) = _
  unfold eqD0 toPy
  rw [toPys_ints, toPys_ints]
  simp [SeqAt.shaped, PyData.canLay0, PyData.depth, lay_ints, depth_ints, PyData.eqv, eqv_ints]
/-- the first place of t in w -/
def fst? : Nat → Int → List Int → Option Nat
  | _, _, [] => none
  | n, t, c :: w => if c = t then some n else fst? (n + 1) t w
theorem fst_head : ∀ (w : List Int) (n : Nat) (t : Int), (((idx n w).filter fun x => decide (x.2 = t)).map Prod.fst).head? = fst? n t w
  | [], _, _ => rfl
  | c :: w, n, t => by
    show ((((n, c) :: idx (n + 1) w).filter fun x => decide (x.2 = t)).map Prod.fst).head? = (if c = t then some n else fst? (n + 1) t w)
    by_cases h : c = t
    · rw [if_pos h, List.filter_cons_of_pos (by simp [h])]
      rfl
    · rw [if_neg h, List.filter_cons_of_neg (by simp [h])]
      exact fst_head w (n + 1) t
theorem gp_fst : ∀ (w : List Int) (n : Nat) (t : Int) (ts : List Int), gp n (t :: ts) w = match fst? n t w with | none => none | some k => (gp (k + 1) ts (w.drop (k + 1 - n))).map (k :: ·)
  | [], _, _, _ => rfl
  | c :: w, n, t, ts => by
    show (if c = t then (gp (n + 1) ts w).map (n :: ·) else gp (n + 1) (t :: ts) w) = match (if c = t then some n else fst? (n + 1) t w) with | none => none | some k => _
    by_cases h : c = t
    · rw [if_pos h, if_pos h]
      show _ = (gp (n + 1) ts ((c :: w).drop (n + 1 - n))).map (n :: ·)
      rw [show n + 1 - n = 1 by omega]
      rfl
    · rw [if_neg h, if_neg h, gp_fst w (n + 1) t ts]
      cases q : fst? (n + 1) t w with
      | none => rfl
      | some k =>
        have hk : n + 1 ≤ k := by
          clear gp_fst
          have go : ∀ (w : List Int) (n k : Nat), fst? n t w = some k → n ≤ k := by
            intro w
            induction w with
            | nil => intro n k z; cases z
            | cons c w ih =>
              intro n k z
              unfold fst? at z
              by_cases y : c = t
              · rw [if_pos y] at z
                cases z
                exact Nat.le_refl _
              · rw [if_neg y] at z
                exact Nat.le_of_succ_le (ih (n + 1) k z)
          exact go w (n + 1) k q
        show (gp (k + 1) ts (w.drop (k + 1 - (n + 1)))).map (k :: ·) = (gp (k + 1) ts ((c :: w).drop (k + 1 - n))).map (k :: ·)
        rw [show k + 1 - n = (k + 1 - (n + 1)) + 1 by omega, List.drop_succ_cons]
theorem forF_nx {S α τ : Type} {un : D → Option τ} {f : τ → α → MS S (Fl α α)} {d : D} {ds : List D} {t : τ} {a b : α} (hu : un d = some t) (h : f t a = ret (.nx b)) : forF un f (d :: ds) a = forF un f ds b := by
  conv => lhs; unfold forF
  rw [hu, lft_some, bnd_ret, h, bnd_ret]
theorem forF_rt {S α τ : Type} {un : D → Option τ} {f : τ → α → MS S (Fl α α)} {d e : D} {ds : List D} {t : τ} {a : α} (hu : un d = some t) (h : f t a = ret (.rt e)) : forF un f (d :: ds) a = ret (.rt e) := by
  conv => lhs; unfold forF
  rw [hu, lft_some, bnd_ret, h, bnd_ret]
def nats (g : List Nat) : List D := g.map fun (n : Nat) => .int (n : Int)
theorem rg2_ok {a b : Nat} (ha : a < 1000) (hb : b < 1000) : rg2 [.int (a : Int), .int (b : Int)] = some (rgD (a : Int) (b - a)) := by
  unfold rg2
  dsimp only
  rw [if_pos (by constructor <;> omega), show ((b : Int) - (a : Int)).toNat = b - a by omega]
theorem rgD_idx2 (w : List Int) (b : Nat) : rgD (b : Int) (w.length - b) = (idx b (w.drop b)).map fun t => D.int (t.1 : Int) := by
  rw [← rg_idx (w.drop b) b, List.length_drop]
  unfold rgD
  rw [List.range'_eq_map_range, List.map_map]
  refine List.map_congr_left fun i _ => ?_
  show D.int ((b : Int) + (i : Int)) = D.int ((b + i : Nat) : Int)
  rw [Int.natCast_add]
theorem dd_none : ∀ (p : Int) (r : List Int), dd none (dd (some p) r) = dd (some p) r
  | _, [] => rfl
  | p, c :: r => by
    show dd none (if c = p then dd (some c) r else c :: dd (some c) r) = if c = p then dd (some c) r else c :: dd (some c) r
    by_cases q : c = p
    · rw [if_pos q, dd_none c r]
    · rw [if_neg q]
      show c :: dd (some c) (dd (some c) r) = _
      rw [dd_idem]
theorem dd_head : ∀ (p : Int) (r : List Int), (dd (some p) r).take 1 ≠ [p]
  | _, [] => by intro h; cases h
  | p, c :: r => by
    show (if c = p then dd (some c) r else c :: dd (some c) r).take 1 ≠ [p]
    by_cases q : c = p
    · rw [if_pos q, ← q]
      exact dd_head c r
    · rw [if_neg q]
      intro h
      exact q (List.cons.inj h).1
/-- the head let go if it is the first colour -/
def le (k : Option Int) (xs : List Int) : List Int := match k with
  | none => xs
  | some k => if xs.take 1 = [k] then xs.drop 1 else xs
theorem le_t {k : Int} {xs : List Int} (h : xs.take 1 = [k]) : le (some k) xs = xs.drop 1 := if_pos h
theorem le_f {k : Int} {xs : List Int} (h : ¬ xs.take 1 = [k]) : le (some k) xs = xs := if_neg h
theorem le_idem (k : Option Int) (cs : List Int) : le k (dd none (le k (dd none cs))) = le k (dd none cs) := by
  cases k with
  | none => exact dd_idem none cs
  | some k =>
    by_cases h : (dd none cs).take 1 = [k]
    · rw [le_t h]
      cases cs with
      | nil => cases h
      | cons c r =>
        have hc : c = k := (List.cons.inj (show c :: _ = [k] from h)).1
        subst hc
        show le (some c) (dd none (dd (some c) r)) = dd (some c) r
        rw [dd_none, le_f (dd_head c r)]
    · rw [le_f h, dd_idem, le_f h]
def fo : Option Int → D
  | none => .non
  | some k => .int k
theorem cut_take {α : Type} (xs : List α) : cut xs none (some 1) = xs.take 1 := by
  cases xs <;> simp [cut, HT.sIx]
theorem cut_drop {α : Type} (xs : List α) : cut xs (some 1) none = xs.drop 1 := by
  cases xs <;> simp [cut, HT.sIx]
theorem eqD_non_tup (cs : List Int) : eqD (.tup (cs.map D.int)) (.tup [.non]) = some false := by
  show eqD0 (.tup (cs.map D.int)) (.tup [.non]) = _
  unfold eqD0 toPy
  rw [toPys_ints]
  cases cs with
  | nil => simp [toPys, toPy, SeqAt.shaped, PyData.canLay0, PyData.depth, PyData.canLayAll0, PyData.depthAll, PyData.eqv, PyData.eqvAll]
  | cons c r => simp [toPys, toPy, SeqAt.shaped, PyData.canLay0, PyData.depth, lay_ints, depth_ints, PyData.canLayAll0, PyData.depthAll, PyData.eqv, PyData.eqvAll]
theorem eqD_optL (o : Option (List Nat)) : eqD (optL o) (optL o) = some true := by
  cases o with
  | none => rfl
  | some g =>
    have h := eqD_tup (g.map fun (n : Nat) => (n : Int)) (g.map fun (n : Nat) => (n : Int))
    rw [List.map_map, decide_eq_true rfl] at h
    exact h
theorem oNe_of {d e : D} {b : Bool} (h : eqD d e = some b) : oNe d e = some (.bl (!b)) := by
  unfold oNe
  rw [h]
  rfl
theorem oEq_of {d e : D} {b : Bool} (h : eqD d e = some b) : oEq d e = some (.bl b) := by
  unfold oEq
  rw [h]
  rfl
theorem dd_len : ∀ (o : Option Int) (r : List Int), (dd o r).length ≤ r.length
  | none, [] => Nat.le_refl _
  | some _, [] => Nat.le_refl _
  | none, c :: r => Nat.succ_le_succ (dd_len (some c) r)
  | some p, c :: r => by
    show (if c = p then dd (some c) r else c :: dd (some c) r).length ≤ _
    by_cases q : c = p
    · rw [if_pos q]
      exact Nat.le_succ_of_le (dd_len (some c) r)
    · rw [if_neg q]
      exact Nat.succ_le_succ (dd_len (some c) r)
theorem dd_mem : ∀ (o : Option Int) (r : List Int), ∀ x ∈ dd o r, x ∈ r
  | none, [], x, h => h
  | some _, [], x, h => h
  | none, c :: r, x, h => by
    rcases List.mem_cons.mp h with h | h
    · rw [h]
      simp
    · exact List.mem_cons_of_mem _ (dd_mem (some c) r x h)
  | some p, c :: r, x, h => by
    have h : x ∈ (if c = p then dd (some c) r else c :: dd (some c) r) := h
    by_cases q : c = p
    · rw [if_pos q] at h
      exact List.mem_cons_of_mem _ (dd_mem (some c) r x h)
    · rw [if_neg q] at h
      rcases List.mem_cons.mp h with h | h
      · rw [h]
        simp
      · exact List.mem_cons_of_mem _ (dd_mem (some c) r x h)
theorem le_mem {k : Option Int} {xs : List Int} {x : Int} (h : x ∈ le k xs) : x ∈ xs := by
  cases k with
  | none => exact h
  | some k =>
    unfold le at h
    dsimp only at h
    split at h
    · exact List.mem_of_mem_drop h
    · exact h
theorem le_len (k : Option Int) (xs : List Int) : (le k xs).length ≤ xs.length := by
  cases k with
  | none => exact Nat.le_refl _
  | some k =>
    unfold le
    dsimp only
    split
    · rw [List.length_drop]
      omega
    · exact Nat.le_refl _
theorem badAt_at : ∀ {ds : List D} {n : Nat} {x : D} {r : List D}, (∀ d ∈ ds, isCol d = true) → isCol x = false → badAt n (ds ++ x :: r) = some (n + ds.length)
  | [], n, x, r, _, hx => by
    show (if isCol x = true then _ else some n) = _
    rw [hx, if_neg Bool.false_ne_true]
    rfl
  | d :: ds, n, x, r, h, hx => by
    show (if isCol d = true then badAt (n + 1) (ds ++ x :: r) else some n) = _
    rw [if_pos (h d (by simp)), badAt_at (fun d hd => h d (by simp [hd])) hx, List.length_cons]
    congr 1
    omega
theorem tk_ite {α : Type} {cells : List Int} {P : α → Prop} {b : Bool} {m n : MS Hd α} (h1 : b = true → Tk cells m P) (h2 : b = false → Tk cells n P) : Tk cells (if b = true then m else n) P := by
  cases b with
  | true => rw [if_pos rfl]; exact h1 rfl
  | false => rw [if_neg Bool.false_ne_true]; exact h2 rfl
theorem cut_takeN {α : Type} (xs : List α) (k : Nat) : cut xs none (some (k : Int)) = xs.take k := by
  unfold cut
  rw [HT.sIx_none, HT.sIx_nat, List.drop_zero, Nat.sub_zero]
  by_cases h : k ≤ xs.length
  · rw [Nat.min_eq_left h]
  · rw [Nat.min_eq_right (by omega), List.take_of_length_le (Nat.le_refl _), List.take_of_length_le (by omega)]
theorem items_lst (ds : List D) : items (.lst ds) = some ds := rfl
theorem items_tup (ds : List D) : items (.tup ds) = some ds := rfl
theorem tru_lst (ds : List D) : tru (.lst ds) = some (!ds.isEmpty) := rfl
theorem oMin2_int (i j : Int) : oMin2 (.int i) (.int j) = some (.int (if j < i then j else i)) := rfl
theorem oIx_nat {ds : List D} {k : Nat} {d : D} (h : ds[k]? = some d) : oIx (.lst ds) (.int (k : Int)) = some d := L2.atI_nat h
theorem seqIndex_nat {k n : Nat} (h : k < n) : ixN n (k : Int) = some k := by
  unfold ixN
  rw [if_pos (by omega), if_pos (by omega), Int.toNat_natCast]
theorem ins_ok {ds : List D} {k : Nat} {d : D} (h : ds.length < 1000) (hk : k < 1000) : ins1 ds (.int (k : Int)) d = some (ds.take k ++ [d] ++ ds.drop k) := by
  unfold ins1
  dsimp only
  rw [if_pos ⟨by unfold tooLong; omega, by omega, by omega⟩, Int.toNat_natCast]
theorem set1_ok {ds : List D} {k : Nat} {d : D} (h : k < ds.length) : set1 ds (.int (k : Int)) d = some (ds.set k d) := by
  unfold set1
  dsimp only
  rw [seqIndex_nat h]
theorem pop_ok {ds : List D} {k : Nat} (h : k < ds.length) (hl : ds.length < 1000) : popA ds (.int (k : Int)) = some (ds.eraseIdx k) := by
  have e : seqIndex? (k : Int) ds.length = some k := (ixN_seq (seqIndex_nat h)).1
  unfold popA
  dsimp only
  rw [if_pos (by omega), e]
  dsimp only
  rw [if_pos h]
theorem min_nat (i j : Nat) : (if (j : Int) < (i : Int) then (j : Int) else (i : Int)) = ((min i j : Nat) : Int) := by
  by_cases h : j < i
  · rw [if_pos (by omega), Nat.min_eq_right (by omega)]
  · rw [if_neg (by omega), Nat.min_eq_left (by omega)]
theorem tk_forU {τ : Type} {cells : List Int} {un : D → Option τ} {f : τ → Unit → MS Hd (Fl Unit Unit)} : ∀ {ds : List D}, (∀ d ∈ ds, ∃ t, un d = some t ∧ Tk cells (f t ()) (fun r => r = .nx ())) → Tk cells (forF un f ds ()) (fun r => r = .nx ())
  | [], _ => tk_ret rfl
  | d :: ds, h => by
    obtain ⟨t, e, ht⟩ := h d (by simp)
    have ih := tk_forU (ds := ds) fun d hd => h d (by simp [hd])
    unfold forF
    rw [e, lft_some, bnd_ret]
    refine tk_bnd ht fun r hr => ?_
    subst hr
    exact ih
theorem eqD_two (cs ws : List Int) : eqD (.tup [.lst (cs.map D.int), .lst (ws.map D.int)]) (.tup [.lst (cs.map D.int), .lst (ws.map D.int)]) = some true := by
  show eqD0 (.tup [.lst (cs.map D.int), .lst (ws.map D.int)]) (.tup [.lst (cs.map D.int), .lst (ws.map D.int)]) = _
  unfold eqD0
  simp [toPy, toPys, toPys_ints, SeqAt.shaped, PyData.canLay0, PyData.canLayAll0, PyData.depth, PyData.depthAll, lay_ints, depth_ints, PyData.eqv, PyData.eqvAll, eqv_ints]
theorem bnd_rseq {S α β : Type} {m : MS S α} {c : Nat} {fs : List D} (h : m = rse c fs) (k : α → MS S β) : bnd m k = rse c fs := by
  rw [h, bnd_rse]
theorem try_rse {S β : Type} {n c : Nat} {m : MS S β} {fs : List D} {hs : List (Nat × (List D → MS S β))} (h : m = rse c fs) : tryM n m hs = hsM n hs c fs := by
  rw [h]
  rfl
/-! ### searches -/
section
variable {S α β τ : Type}
/-- the first item for which w says something, and its place -/
def fstW (w : D → Option β) : Nat → List D → Option (Nat × β)
  | _, [] => none
  | n, d :: ds => match w d with
    | some x => some (n, x)
    | none => fstW w (n + 1) ds
theorem forN_fstW {w : D → Option β} {c : Nat} {g : Nat → β → List D} {f : D × D → Unit → MS S Unit} : ∀ {ds : List D} {n : Nat}, (∀ n, ∀ d ∈ ds, f (.int (n : Nat), d) () = match w d with | none => ret () | some x => rse c (g n x)) →
    forN un2 f (numb n ds) () = match fstW w n ds with | none => ret () | some q => rse c (g q.1 q.2)
  | [], _, _ => rfl
  | d :: ds, n, h => by
    show bnd (lft (un2 (.tup [.int (n : Int), d]))) (fun t => bnd (f t ()) fun b => forN un2 f (numb (n + 1) ds) b) = _
    rw [show un2 (.tup [.int (n : Int), d]) = some (.int (n : Int), d) from rfl, lft_some, bnd_ret, h n d (by simp)]
    unfold fstW
    cases hw : w d with
    | none =>
      dsimp only
      rw [bnd_ret]
      exact forN_fstW fun n d hd => h n d (by simp [hd])
    | some x => rfl
theorem forF_fstW {w : D → Option β} {g : Nat → β → D} {f : D × D → Unit → MS S (Fl Unit Unit)} : ∀ {ds : List D} {n : Nat}, (∀ n, ∀ d ∈ ds, f (.int (n : Nat), d) () = match w d with | none => ret (.nx ()) | some x => ret (.rt (g n x))) →
    forF un2 f (numb n ds) () = match fstW w n ds with | none => ret (.nx ()) | some q => ret (.rt (g q.1 q.2))
  | [], _, _ => rfl
  | d :: ds, n, h => by
    show bnd (lft (un2 (.tup [.int (n : Int), d]))) (fun t => bnd (f t ()) _) = _
    rw [show un2 (.tup [.int (n : Int), d]) = some (.int (n : Int), d) from rfl, lft_some, bnd_ret, h n d (by simp)]
    unfold fstW
    cases hw : w d with
    | none =>
      dsimp only
      rw [bnd_ret]
      exact forF_fstW fun n d hd => h n d (by simp [hd])
    | some x => rfl
/-- .. without places -/
theorem forF_fst1 {w : D → Option β} {g : β → D} {f : D → Unit → MS S (Fl Unit Unit)} : ∀ {ds : List D} {n : Nat}, (∀ d ∈ ds, f d () = match w d with | none => ret (.nx ()) | some x => ret (.rt (g x))) →
    forF un1 f ds () = match fstW w n ds with | none => ret (.nx ()) | some q => ret (.rt (g q.2))
  | [], _, _ => rfl
  | d :: ds, n, h => by
    unfold forF
    rw [show un1 d = some d from rfl, lft_some, bnd_ret, h d (by simp)]
    unfold fstW
    cases hw : w d with
    | none =>
      dsimp only
      rw [bnd_ret]
      exact forF_fst1 fun d hd => h d (by simp [hd])
    | some x => rfl
theorem fstW_none {w : D → Option β} : ∀ {ds : List D} {n : Nat}, fstW w n ds = none ↔ ∀ d ∈ ds, w d = none
  | [], _ => by simp [fstW]
  | d :: ds, n => by
    unfold fstW
    cases hw : w d with
    | none => simp [fstW_none (ds := ds) (n := n + 1), hw]
    | some x => simp [hw]
theorem fstW_some {w : D → Option β} : ∀ {ds : List D} {n k : Nat} {x : β}, fstW w n ds = some (k, x) → n ≤ k ∧ k < n + ds.length ∧ ∃ d ∈ ds, w d = some x
  | [], _, _, _, h => by cases h
  | d :: ds, n, k, x, h => by
    unfold fstW at h
    rw [List.length_cons]
    cases hw : w d with
    | none =>
      rw [hw] at h
      obtain ⟨a, b, e, he, q⟩ := fstW_some h
      exact ⟨by omega, by omega, e, by simp [he], q⟩
    | some y =>
      rw [hw] at h
      cases h
      exact ⟨by omega, by omega, d, by simp, hw⟩
end
/-! ### plain data -/
mutual
/-- no objects, no dicts; numbers, texts not too great -/
def pln : D → Bool
  | .non => true
  | .bl _ => true
  | .int i => decide (i.natAbs < 1000000000000000000000000000000)
  | .str x => PyData.strOk x && decide (x.length ≤ 100)
  | .lst xs => plns xs
  | .tup xs => plns xs
  | .obj _ _ => false
  | .dct _ => false
  | .lnt xs => plns xs
def plns : List D → Bool
  | [] => true
  | x :: xs => pln x && plns xs
end
mutual
def bulkD : D → Nat
  | .str x => x.length
  | .lst xs => bulksD xs
  | .tup xs => bulksD xs
  | .lnt xs => bulksD xs
  | _ => 0
def bulksD : List D → Nat
  | [] => 0
  | x :: xs => bulkD x + 1 + bulksD xs
end
mutual
def depD : D → Nat
  | .lst xs => depsD xs + 1
  | .tup xs => depsD xs + 1
  | .lnt xs => depsD xs + 1
  | _ => 0
def depsD : List D → Nat
  | [] => 0
  | x :: xs => max (depD x) (depsD xs)
end
theorem plns_mem : ∀ {ds : List D}, plns ds = true ↔ ∀ d ∈ ds, pln d = true
  | [] => by simp [plns]
  | d :: ds => by
    rw [plns, Bool.and_eq_true, plns_mem]
    simp
theorem depsD_le {k : Nat} : ∀ {ds : List D}, (∀ d ∈ ds, depD d ≤ k) → depsD ds ≤ k
  | [], _ => by simp [depsD]
  | d :: ds, h => by
    rw [depsD]
    exact Nat.max_le.2 ⟨h d (by simp), depsD_le fun d hd => h d (by simp [hd])⟩
theorem bulksD_le {k : Nat} : ∀ {ds : List D}, (∀ d ∈ ds, bulkD d ≤ k) → bulksD ds ≤ (k + 1) * ds.length
  | [], _ => by simp [bulksD]
  | d :: ds, h => by
    have h1 := h d (by simp)
    have h2 := bulksD_le (k := k) (ds := ds) fun d hd => h d (by simp [hd])
    rw [bulksD, List.length_cons, Nat.mul_succ]
    omega
theorem log2_lt_of {n k : Nat} (h : n < 2 ^ k) (hk : 0 < k) : n.log2 < k := by
  rcases Nat.eq_zero_or_pos n with e | e
  · subst e
    exact hk
  · exact (Nat.log2_lt (by omega)).2 h
/-- what toPy makes of plain data -/
structure PyOk (d : D) (a : PyData) : Prop where
  py : toPy d = some a
  lay : a.canLay0 = true
  short : a.leavesShort 40 = true
  show_ : a.showable = true
  nod : a.hasDict = false
  bulk : a.bulk = bulkD d
  dep : a.depth = depD d
structure PysOk (ds : List D) (as : List PyData) : Prop where
  py : toPys ds = some as
  lay : PyData.canLayAll0 as = true
  short : PyData.leavesShortAll 40 as = true
  show_ : PyData.showableAll as = true
  nod : PyData.hasDictAll as = false
  bulk : PyData.bulkAll as = bulksD ds
  dep : PyData.depthAll as = depsD ds
mutual
theorem pyOk : ∀ {d : D}, pln d = true → ∃ a, PyOk d a
  | .non, _ => ⟨.none, rfl, by simp [PyData.canLay0], by simp [PyData.leavesShort], by simp [PyData.showable], by simp [PyData.hasDict], by simp [PyData.bulk, bulkD], by simp [PyData.depth, depD]⟩
  | .bl b, _ => ⟨.bool b, rfl, by simp [PyData.canLay0], by simp [PyData.leavesShort], by simp [PyData.showable], by simp [PyData.hasDict], by simp [PyData.bulk, bulkD], by simp [PyData.depth, depD]⟩
  | .int i, h => by
    have h : i.natAbs < 1000000000000000000000000000000 := of_decide_eq_true (show decide (i.natAbs < 1000000000000000000000000000000) = true from h)
    refine ⟨.int i, rfl, by simp [PyData.canLay0], ?_, ?_, by simp [PyData.hasDict], by simp [PyData.bulk, bulkD], by simp [PyData.depth, depD]⟩
    · unfold PyData.leavesShort
      have e := int_text_length_le10 (a := i) (k := 30) (by decide) (by omega)
      refine decide_eq_true ?_
      show (Str.ofString (toString i)).length ≤ 40
      rw [PySem.ofString_length]
      omega
    · unfold PyData.showable
      exact decide_eq_true (Nat.lt_of_lt_of_le (log2_lt_of (k := 100) (by omega) (by decide)) (by decide))
  | .str x, h => by
    unfold pln at h
    rw [Bool.and_eq_true] at h
    refine ⟨.str x, rfl, by simp [PyData.canLay0, h.1], ?_, by simp [PyData.showable], by simp [PyData.hasDict], by simp [PyData.bulk, bulkD, Str.length], by simp [PyData.depth, depD]⟩
    unfold PyData.leavesShort
    have q := h.1
    unfold PyData.strOk at q
    rw [Array.all_eq_true_iff_forall_mem] at q
    rw [List.all_eq_true]
    intro c hc
    have := of_decide_eq_true (q c (Array.mem_toList_iff.1 hc))
    exact decide_eq_true (Nat.lt_trans this (by decide))
  | .lst xs, h => by
    obtain ⟨as, q⟩ := pysOk (ds := xs) h
    exact ⟨.list as, by unfold toPy; rw [q.py]; rfl, by unfold PyData.canLay0; exact q.lay, by unfold PyData.leavesShort; exact q.short, by unfold PyData.showable; exact q.show_, by unfold PyData.hasDict; exact q.nod, by unfold PyData.bulk bulkD; exact q.bulk, by unfold PyData.depth depD; rw [q.dep]⟩
  | .tup xs, h => by
    obtain ⟨as, q⟩ := pysOk (ds := xs) h
    exact ⟨.tuple as, by unfold toPy; rw [q.py]; rfl, by unfold PyData.canLay0; exact q.lay, by unfold PyData.leavesShort; exact q.short, by unfold PyData.showable; exact q.show_, by unfold PyData.hasDict; exact q.nod, by unfold PyData.bulk bulkD; exact q.bulk, by unfold PyData.depth depD; rw [q.dep]⟩
  | .obj _ _, h => by cases h
  | .dct _, h => by cases h
  | .lnt xs, h => by
    obtain ⟨as, q⟩ := pysOk (ds := xs) h
    exact ⟨.list as, by unfold toPy; rw [q.py]; rfl, by unfold PyData.canLay0; exact q.lay, by unfold PyData.leavesShort; exact q.short, by unfold PyData.showable; exact q.show_, by unfold PyData.hasDict; exact q.nod, by unfold PyData.bulk bulkD; exact q.bulk, by unfold PyData.depth depD; rw [q.dep]⟩
theorem pysOk : ∀ {ds : List D}, plns ds = true → ∃ as, PysOk ds as
  | [], _ => ⟨[], rfl, by simp [PyData.canLayAll0], by simp [PyData.leavesShortAll], by simp [PyData.showableAll], by simp [PyData.hasDictAll], by simp [PyData.bulkAll, bulksD], by simp [PyData.depthAll, depsD]⟩
  | d :: ds, h => by
    unfold plns at h
    rw [Bool.and_eq_true] at h
    obtain ⟨a, p⟩ := pyOk h.1
    obtain ⟨as, q⟩ := pysOk h.2
    refine ⟨a :: as, by unfold toPys; rw [p.py, q.py], by simp [PyData.canLayAll0, p.lay, q.lay], by simp [PyData.leavesShortAll, p.short, q.short], by simp [PyData.showableAll, p.show_, q.show_], by simp [PyData.hasDictAll, p.nod, q.nod], by simp [PyData.bulkAll, bulksD, p.bulk, q.bulk], by simp [PyData.depthAll, depsD, p.dep, q.dep]⟩
end
theorem repr_pln {d : D} (h : pln d = true) (hb : bulkD d ≤ 20000) (hd : depD d ≤ 60) : ∃ r, oRepr d = some (.str r) := by
  obtain ⟨a, p⟩ := pyOk h
  refine ⟨a.shown, ?_⟩
  unfold oRepr
  rw [p.py]
  have l := PyData.shown_le_bulk 40 (by decide) a p.short
  rw [p.bulk] at l
  dsimp only
  rw [if_pos ⟨p.show_, p.nod, by rw [p.dep]; exact hd, by unfold tooLong; omega⟩]
theorem eqD_self {d : D} (h : pln d = true) (hd : depD d ≤ 60) : eqD d d = some true := by
  obtain ⟨a, p⟩ := pyOk h
  refine eqD_up ?_
  unfold eqD0
  rw [p.py]
  have s : SeqAt.shaped a = true := by
    unfold SeqAt.shaped
    rw [p.lay, p.dep, Bool.true_and]
    exact decide_eq_true (by omega)
  dsimp only
  rw [s, if_pos (show (true && true) = true from rfl), PySem.SeqAt.eqv_refl a p.lay]
theorem Pl.of {d : D} (h : pln d = true) : Pl d := by
  cases d <;> first | trivial | (cases h)
theorem pln_items {d : D} {l : List D} (h : pln d = true) (e : items d = some l) : ∀ x ∈ l, pln x = true := by
  cases d <;> first | (cases e; done) | (cases e; exact plns_mem.1 h)
theorem div_pos2 {i j : Int} (h : 0 < j) (hj : j.natAbs < 2 ^ 100) : oDiv (.int i) (.int j) = some (.int (i / j)) := by
  have q := log2_lt_of hj (by decide)
  show (if decide (0 < j ∧ j.natAbs.log2 < 9000) = true then some (D.int (i / j)) else none) = _
  exact if_pos (by simp; omega)
/-- a loop over the hand -/
theorem tk_forN {α τ : Type} {cells : List Int} {un : D → Option τ} {f : τ → α → MS Hd α} (I : Nat → α → Prop) : ∀ {ds : List D} {n : Nat} {a : α}, I n a → (∀ d ∈ ds, ∃ t, un d = some t ∧ ∀ n a, I n a → Tk cells (f t a) (I (n + 1))) → Tk cells (forN un f ds a) (I (n + ds.length))
  | [], n, a, h, _ => tk_ret h
  | d :: ds, n, a, h, hf => by
    obtain ⟨t, e, ht⟩ := hf d (by simp)
    unfold forN
    rw [e, lft_some, bnd_ret]
    refine tk_bnd (ht n a h) fun b hb => ?_
    have ih := tk_forN I (ds := ds) (n := n + 1) (a := b) hb fun d hd => hf d (by simp [hd])
    rw [List.length_cons, show n + (ds.length + 1) = n + 1 + ds.length by omega]
    exact ih
theorem app_ok {ds : List D} {d : D} (h : ds.length < 1000) : app1 ds d = some (ds ++ [d]) := if_pos (by unfold tooLong; omega)
def hitF {β : Type} (g : Nat → β → D) : Option (Nat × β) → Fr Unit
  | none => .nx ()
  | some q => .rt (g q.1 q.2)
def hitL {β : Type} (g : β → D) : Option β → Fl Unit Unit
  | none => .nx ()
  | some x => .rt (g x)
theorem forF_hit {S β : Type} {w : D → Option β} {g : Nat → β → D} {f : D × D → Unit → MS S (Fl Unit Unit)} : ∀ {ds : List D} {n : Nat}, (∀ n, ∀ d ∈ ds, f (.int (n : Nat), d) () = ret (hitL (g n) (w d))) → forF un2 f (numb n ds) () = ret (hitF g (fstW w n ds))
  | [], _, _ => rfl
  | d :: ds, n, h => by
    show bnd (lft (un2 (.tup [.int (n : Int), d]))) (fun t => bnd (f t ()) _) = _
    rw [show un2 (.tup [.int (n : Int), d]) = some (.int (n : Int), d) from rfl, lft_some, bnd_ret, h n d (by simp)]
    unfold fstW
    cases hw : w d with
    | none => exact forF_hit fun n d hd => h n d (by simp [hd])
    | some x => rfl
theorem tk_forB {α τ : Type} {cells : List Int} {un : D → Option τ} {f : τ → α → MS Hd α} (N : Nat) (I : Nat → α → Prop) : ∀ {ds : List D} {n : Nat} {a : α}, n + ds.length ≤ N → I n a → (∀ d ∈ ds, ∃ t, un d = some t ∧ ∀ n a, n < N → I n a → Tk cells (f t a) (I (n + 1))) → Tk cells (forN un f ds a) (I (n + ds.length))
  | [], n, a, _, h, _ => tk_ret h
  | d :: ds, n, a, hN, h, hf => by
    rw [List.length_cons] at hN
    obtain ⟨t, e, ht⟩ := hf d (by simp)
    unfold forN
    rw [e, lft_some, bnd_ret]
    refine tk_bnd (ht n a (by omega) h) fun b hb => ?_
    have ih := tk_forB N I (ds := ds) (n := n + 1) (a := b) (by omega) hb fun d hd => hf d (by simp [hd])
    rw [List.length_cons, show n + (ds.length + 1) = n + 1 + ds.length by omega]
    exact ih
end Dm

set_option Elab.async false
set_option linter.all false
set_option maxRecDepth 100000
set_option maxHeartbeats 2000000
namespace Dm
open PySem PySem.Spec PyProof.Rows L2
/-! ### try amid a suite: the body or a clause may fall through -/
/-- slot i is not told of -/
def Frz0 (i : Nat) : Dm.Fin → Prop
  | .nx ρ => ρ.set i .U = ρ
  | .rt _ => True
  | .bk ρ => ρ.set i .U = ρ
  | .ct ρ => ρ.set i .U = ρ
  | .rl _ => True
def FrzO (o : Option Nat) (f : Dm.Fin) : Prop := match o with
  | none => True
  | some i => Frz0 i f
section
variable {S β : Type} {J : Jc S} {T : Ends → Prop} {esc ρ : Dm.Env} {G : Hp} {E : Ends}
theorem Fo.goneF {s : S} {o : Option Nat} {f : Dm.Fin} (hf : FrzO o f) (h : Fo J G E s f) : Fo J.quiet G (Dm.gone E o) s f := by
  cases o with
  | none => cases f <;> exact h
  | some i =>
    have un : ∀ {ρ : Dm.Env} {K : Sl → Hp → Prop}, ρ.set i .U = ρ → (∀ σ G' H L, Same G G' → Ok J.Z (J.lay s) ρ G' σ L H → K σ H) → ∀ σ G' H L, Same G G' → Ok J.Z (J.lay s) ρ G' σ L H → K (σ.set i none) H := fun {ρ K} e k σ G' H L sm o => by
      obtain ⟨L', o'⟩ := o.unset (i := i) (x := none)
      rw [e] at o'
      exact k _ G' H L' sm o'
    cases f with
    | rt d => exact h
    | nx ρ => exact un hf h
    | bk ρ => exact un hf h
    | ct ρ => exact un hf h
    | rl d => exact h
/-- the clauses, one by one -/
inductive HsF (J : Jc S) (T : Ends → Prop) (esc escB : Dm.Env) (fin : β → Dm.Fin) : List Cls3 → List (Nat × (List D → MS S β)) → Prop
  | nil : HsF J T esc escB fin [] []
  | name {c i : Nat} {ts : Addr → Value → Option Addr → TS} {h : List D → MS S β} {l : List Cls3} {hs : List (Nat × (List D → MS S β))}
      (hu : ∀ a dx fs, Sv J.quiet T (escB.set i (.A a (xF J.Z dx c fs))) (ts a (.ref (J.Z.cl c)) (some dx)) (escB.set i (.A a (xF J.Z dx c fs))) (h fs) fin) (hf : ∀ b, Frz0 i (fin b)) (r : HsF J T esc escB fin l hs) : HsF J T esc escB fin ((.ref (J.Z.cl c), some i, ts) :: l) ((c, h) :: hs)
  | bare {c : Nat} {ts : Addr → Value → Option Addr → TS} {h : List D → MS S β} {l : List Cls3} {hs : List (Nat × (List D → MS S β))}
      (hu : ∀ a dx fs, Sv J.quiet T escB (ts a (.ref (J.Z.cl c)) (some dx)) escB (h fs) fin) (r : HsF J T esc escB fin l hs) : HsF J T esc escB fin ((.ref (J.Z.cl c), none, ts) :: l) ((c, h) :: hs)
theorem sv_tryF {K : PySem.W.Frag} {n : Nat} {tb : WX → TS} {Wo : WX} {l : List Cls3} {hs : List (Nat × (List D → MS S β))} {m : MS S β} {escB : Dm.Env} {fin : β → Dm.Fin} (hT : ∀ E i, T E → T (gone E i)) (hx : ∀ c c', c < n → c' < n → PySem.W.exmOne K (.ref (J.Z.cl c)) (.ref (J.Z.cl c')) = some (decide (c = c')))
    (hb : ∀ X, Sv (J.to X) T escB (tb X) ρ m fin) (hh : HsF J T esc escB fin l hs) (hn : ∀ p ∈ hs, p.1 < n) (we : Wk escB esc) (hW : Wo = J.X := by rfl) : Sv J T esc (tTry K tb Wo l) ρ (tryM n m hs) fin := fun σ G s H L o E ht q => by
  subst hW
  refine hb (wHs K J.X E l) σ G s H L o E ht ?_
  have q1 : Pss J esc G E fin ((m s).cat (hsM n hs)) := q
  cases e : m s with
  | stuck =>
    rw [e] at q1
    exact q1
  | ok d s' =>
    rw [e] at q1
    have q1 : Fo J G E s' (fin d) := q1
    show Fo (J.to (wHs K J.X E l)) G E s' (fin d)
    cases hf : fin d <;> (rw [hf] at q1; exact q1)
  | ex c fs s' =>
    rw [e] at q1
    have q2 : Pss J esc G E fin (hsM n hs c fs s') := q1
    unfold hsM at q2
    by_cases hc : c < n
    · rw [if_pos hc] at q2
      intro σ1 dx vs G1 H1 L1 sm o1 hd hl hr
      have known : xF J.Z dx c fs G1 := ⟨vs, hd, hl, hr⟩
      have ran : ∀ {h : List D → MS S β} {i : Option Nat}, (∀ b, FrzO i (fin b)) → Pss J esc G E fin (pick (some h) c fs s') → ∀ esc', Pss J.quiet esc' G1 (gone E i) fin (h fs s') := fun {h i} hi q3 esc' => by
        have q4 : Pss J esc G E fin (nex (h fs) s') := q3
        unfold nex at q4
        cases e3 : h fs s' with
        | stuck => rw [e3] at q4; exact q4
        | ex _ _ _ => rw [e3] at q4; exact q4.elim
        | ok d s2 => rw [e3] at q4; exact Fo.goneF (hi d) (Fo.mono sm q4)
      have each : ∀ {l' : List Cls3} {hs' : List (Nat × (List D → MS S β))}, HsF J T esc escB fin l' hs' → (∀ p ∈ hs', p.1 < n) → Pss J esc G E fin (pick (hs'.lookup c) c fs s') → wHs K J.X E l' (.ref (J.Z.cl c)) (some dx) σ1 H1 := by
        intro l' hs' hk
        induction hk with
        | nil =>
          intro _ q3
          obtain ⟨L2, o2⟩ := o1.weak we
          exact q3 σ1 dx vs G1 H1 L2 sm o2 hd hl hr
        | @name c' i ts h l2 hs2 hu hf r ih =>
          intro hn2 q3
          have hc' : c' < n := hn2 (c', h) (by simp)
          refine ⟨_, hx c c' hc hc', fun hb a ha => ?_, fun hb => ?_⟩
          · have ec : c = c' := of_decide_eq_true hb
            subst ec
            rw [List.lookup_cons_self] at q3
            obtain ⟨L2, o2⟩ := o1.setA (i := i) (a := a) (F := xF J.Z dx c fs) fun G' s' => xF.mono known s'
            exact hu a dx fs _ G1 s' H1 L2 o2 _ (hT E (some i) ht) (ran (i := some i) hf q3 _)
          · have ec : c ≠ c' := of_decide_eq_false hb
            rw [List.lookup_cons, beq_false_of_ne ec] at q3
            exact ih (fun p hp => hn2 p (by simp [hp])) q3
        | @bare c' ts h l2 hs2 hu r ih =>
          intro hn2 q3
          have hc' : c' < n := hn2 (c', h) (by simp)
          refine ⟨_, hx c c' hc hc', fun hb a ha => ?_, fun hb => ?_⟩
          · have ec : c = c' := of_decide_eq_true hb
            subst ec
            rw [List.lookup_cons_self] at q3
            exact hu a dx fs _ G1 s' H1 L1 o1 _ (hT E none ht) (ran (i := none) (fun _ => trivial) q3 _)
          · have ec : c ≠ c' := of_decide_eq_false hb
            rw [List.lookup_cons, beq_false_of_ne ec] at q3
            exact ih (fun p hp => hn2 p (by simp [hp])) q3
      exact each hh hn q2
    · rw [if_neg hc] at q2
      exact q2.elim
end
end Dm

set_option Elab.async false
set_option linter.all false
set_option maxRecDepth 100000
set_option maxHeartbeats 8000000
namespace Dm
open PySem PySem.Spec PyProof.Rows L2
/-! ### set(list of ints), sorted of it -/
/-- the set as it is made: empty -/
abbrev bareSet (w : World) : Obj := { cls := .type "set", dict := none, data := .set #[] 0 (.fresh 0 0 (!w.params.followText "set-order")) }
section
variable {P : Program} {w : World} {A : Around} {E : Value → Shared → Prop} {s : Shared}
theorem set_of_list {a : Addr} {us : Array Value} (ks : List Int) {Q : Value → Shared → Prop} (hd : A.handled = none) (isl : s.heap.IsList a us) (iu : IntsAre us.toList ks) (room : ks.length + 1 < scanBound)
    (q : ∀ (g : Heap) (t m : Nat), SetR w g s.heap.objs.size (fun j => decide (j ∈ ks)) m → m ≤ ks.length → (∀ b o, s.heap.get? b = some o → g.get? b = some o) → Q (.ref s.heap.objs.size) { s with heap := g, toks := t }) :
    wpAny (model P w) A (call (.type "set") [.ref a]) Q E s := by
  have size : us.size = ks.length := by
    have := IntsAre.length iu
    rwa [Array.length_toList] at this
  generalize hN : s.heap.objs.size = N at *
  obtain ⟨mc, mt, hmro⟩ := PySem.F.called_set.mro
  have f1 := PySem.F.called_set.made
  have f2 := PySem.F.called_set.sub
  have f3 := PySem.F.called_set.notType
  have f4 := PySem.F.called_set.canCreate
  have f5 := PySem.F.typeCall_set_1 (.ref a)
  refine wpAny_call (codeAny_of_tree ?_)
  show wpAny _ _ (callAny (.type "set") _) _ _ _
  refine wpAny_pure ⟨Code.quiet_builtin _ (by decide +kernel), codeAny_builtin PySem.F.entry_type_call ?_⟩
  rw [Around.under_plain (weight_type_call_type "set" [.ref a] []) rfl]
  repeat (any_goals (first | assumption | wp_step))
  have born : (s.heap.push (bareSet w)).get? N = some (bareSet w) := by rw [← hN]; exact Heap.get?_push_size _ rfl
  refine codeAny_mono (code_set_led1 (.ref a) (E := E) (Q₁ := fun x u => x = .ref N ∧ u = { s with heap := s.heap.push (bareSet w) }) ⟨by rw [hN], rfl⟩) fun re u hre => ?_
  cases re with
  | error e => exact hre
  | ok fl =>
    cases fl with
    | next => exact hre.elim
    | brk => exact hre.elim
    | cont => exact hre.elim
    | ret x =>
      obtain ⟨rfl, rfl⟩ := hre
      have ty : Shared.TypeIs { s with heap := s.heap.push (bareSet w) } (.ref N) "set" := ⟨_, born, rfl⟩
      have g1 := PySem.F.called_set.init.lookup
      have g2 := PySem.F.called_set.init.bind (.ref N)
      repeat (any_goals (first | assumption | wp_step))
      have made : ∀ (X : Value) (u2 : Shared), (X = .none ∧ ∃ g t m, u2 = { s with heap := g, toks := t } ∧ SetR w g N (fun j => decide (j ∈ ks)) m ∧ m ≤ ks.length ∧ ∀ b o, s.heap.get? b = some o → g.get? b = some o) → Q (.ref N) u2 := by
        rintro X u2 ⟨_, g, t, m, rfl, k1, k2, k3⟩
        exact q g t m k1 k2 k3
      refine codeAny_mono (codeAny_call_builtin (R := wants (fun X u2 => X = .none ∧ ∃ g t m, u2 = { s with heap := g, toks := t } ∧ SetR w g N (fun j => decide (j ∈ ks)) m ∧ m ≤ ks.length ∧ ∀ b o, s.heap.get? b = some o → g.get? b = some o) E)
        PySem.F.called_set.init.plain PySem.F.entry_set_init (check_set_init_1 ty ?_)) fun re2 u2 hre2 => ?_
      · have isl2 : (s.heap.push (bareSet w)).IsList a us := isl.push _
        obtain ⟨⟨oc, od, oda, osl⟩, look, oc1, nn, od1⟩ := isl
        simp only at oc1 od1
        subst oc1
        subst od1
        have look2 : (s.heap.push (bareSet w)).get? a = some { cls := .type "list", dict := od, data := .seq us nn, slots := osl } := Heap.get?_push_of_some _ look
        have b1 := PySem.F.sub_list_set
        have b2 := PySem.F.sub_list_frozenset
        have b3 : (Value.type "list" == Value.type "dict") = false := by decide
        unfold Builtin.«set.__init__» noKeywords Builtin.Frozenset.updateFrom
        generalize hIt : pyIter = It0
        wp_walk
        subst hIt
        refine wpAny_pyIter_list isl2 (wpAny_bind (wpAny_runValue ?_))
        have aN : a < N := by rw [← hN]; exact Heap.lt_size look
        have sz : (s.heap.push (bareSet w)).objs.size = N + 1 := by rw [Heap.size_push, hN]
        have quiet : A.in1.in1.in1.handled = none := hd
        have far : a ≠ (s.heap.push (bareSet w)).objs.size := by rw [sz]; exact Nat.ne_of_lt (Nat.lt_succ_of_lt aN)
        have apart : N ∉ [(s.heap.push (bareSet w)).objs.size, a] := by
          rw [sz]
          intro y
          rcases List.mem_cons.1 y with y | y
          · exact Nat.succ_ne_self N y.symm
          · exact absurd aN (by rw [← List.mem_singleton.1 y]; exact Nat.lt_irrefl _)
        have vals : ∀ (i : Nat) (v : Value), us[i]? = some v → ∃ k t, ks[i]? = some k ∧ v = .int k t := by
          intro i v hv
          have hi : i < ks.length := by rw [← size]; exact (Array.getElem?_eq_some_iff.mp hv).1
          obtain ⟨t, y⟩ := PyProof.Rows.IntsAre.int_at iu i v (by rw [Array.getElem?_toList]; exact hv)
          refine ⟨ks[i], t, List.getElem?_eq_getElem hi, ?_⟩
          rw [y, List.getD_eq_getElem?_getD, List.getElem?_eq_getElem hi] <;> rfl
        refine set_update_ints ((Walks.list quiet _ a far us).toS) N apart ks size room vals (us.size - 0) 0 _ (by omega) (Nat.zero_le _) ⟨⟨_, Heap.get?_push_size _ rfl, rfl, rfl⟩, (isl2.push _)⟩ ⟨0, Nat.le_refl 0, setR_new_at (Heap.get?_push_of_some _ born)⟩ ?_
        intro u3 m moved hm hset
        obtain ⟨g3, gens3, drawn3, tok3, os3⟩ := u3
        have y1 : gens3 = s.gens := moved.gens
        have y2 : drawn3 = s.drawn := moved.drawn
        have y3 : os3 = s.os := moved.os
        subst y1
        subst y2
        subst y3
        show wpAny _ _ _ _ _ _
        refine wpAny_pure ?_
        show wpAny _ _ (PySem.ret Value.none) _ _ _
        refine wpAny_pure ⟨rfl, g3, tok3, m, rfl, hset, by rw [← size]; exact hm, fun b o y => ?_⟩
        have lt : b < N := by rw [← hN]; exact Heap.lt_size y
        refine moved.heap b o ?_ (Heap.get?_push_of_some _ (Heap.get?_push_of_some _ y))
        intro z
        rcases List.mem_cons.1 z with z | z
        · exact absurd lt (by rw [z]; exact Nat.lt_irrefl _)
        · rcases List.mem_cons.1 z with z | z
          · rw [sz] at z
            exact absurd lt (by rw [z]; exact Nat.not_lt.2 (Nat.le_succ _))
          · cases z
      · match re2, hre2 with
        | .error e, hre2 => exact hre2
        | .ok .next, hre2 => exact hre2.elim
        | .ok .brk, hre2 => exact hre2.elim
        | .ok .cont, hre2 => exact hre2.elim
        | .ok (.ret X), hre2 =>
          have fin := made X u2 hre2
          obtain ⟨rfl, _⟩ := hre2
          repeat (any_goals (first | assumption | wp_step))
end
def rSetI (K : PySem.W.Frag) (w : World) : List V → Hp → VK → Prop := fun xs H Q => ∃ (l : Addr) (ns : List Int), xs = [.ref l] ∧ SqL K H l (ns.map V.int) ∧ ns.length < 1000 ∧ ∀ p c, H p = none → c ≤ ns.length → Q (.ref p) (upd H p (SetO w p (fun j => decide (j ∈ ns)) c))
theorem cr_setI {X : Cx} (hc : X.calm = true) : CallR X (.type "set") (rSetI X.K X.w) := by
  rintro pins s σ H xs us Q I r ⟨l, ns, rfl, hl, hn, q⟩
  obtain ⟨u, rfl, ru⟩ : ∃ u, us = [u] ∧ RelV (.ref l) u := by
    cases r with
    | cons h t =>
      cases t
      exact ⟨_, rfl, h⟩
  have ru : u = Value.ref l := ru
  subst ru
  obtain ⟨its, rv, pl, _⟩ := I.list hl
  refine set_of_list ns (I.ok.hd hc) pl.isList (by simpa using ints_of_vals rv) (by unfold scanBound; omega) fun g t m hR hm keep => ?_
  exact ⟨.ref _, upd H s.heap.objs.size (SetO X.w s.heap.objs.size (fun j => decide (j ∈ ns)) m), I.laid (t' := t) keep (Nat.le_refl _) (setO_new hR), rfl, q _ _ (I.hok.fresh (Nat.le_refl _)) hm⟩
end Dm

set_option Elab.async false
set_option linter.all false
set_option maxRecDepth 100000
set_option maxHeartbeats 2000000
namespace Dm
open PySem PySem.Spec PyProof.Rows L2
/-! ### sorted(set(xs)) over data -/
def intsD : List D → Option (List Int)
  | [] => some []
  | .int i :: ds => (intsD ds).map (i :: ·)
  | _ :: _ => none
theorem intsD_some : ∀ {ds : List D} {ns : List Int}, intsD ds = some ns → ds = ns.map D.int
  | [], _, h => by cases h; rfl
  | d :: ds, ns, h => by
    cases d with
    | int i =>
      unfold intsD at h
      cases e : intsD ds with
      | none => rw [e] at h; cases h
      | some ms =>
        rw [e] at h
        cases h
        rw [intsD_some e]
        rfl
    | _ => cases h
theorem intsD_map : ∀ ns : List Int, intsD (ns.map D.int) = some ns
  | [] => rfl
  | n :: ns => by
    show (intsD (ns.map D.int)).map (n :: ·) = _
    rw [intsD_map ns]
    rfl
/-- k put into an ascending list, once -/
def insI (k : Int) : List Int → List Int
  | [] => [k]
  | x :: r => if k < x then k :: x :: r else if k = x then x :: r else x :: insI k r
def sortI : List Int → List Int
  | [] => []
  | k :: r => insI k (sortI r)
theorem insI_mem {k y : Int} : ∀ {l : List Int}, y ∈ insI k l ↔ y = k ∨ y ∈ l
  | [] => by simp [insI]
  | x :: r => by
    unfold insI
    split
    · simp
    · split
      · rename_i h
        subst h
        simp
      · simp only [List.mem_cons, insI_mem (l := r)]
        constructor
        · rintro (h | h | h)
          · exact .inr (.inl h)
          · exact .inl h
          · exact .inr (.inr h)
        · rintro (h | h | h)
          · exact .inr (.inl h)
          · exact .inl h
          · exact .inr (.inr h)
theorem insI_sorted {k : Int} : ∀ {l : List Int}, l.Pairwise (· < ·) → (insI k l).Pairwise (· < ·)
  | [], _ => by simp [insI]
  | x :: r, h => by
    unfold insI
    rw [List.pairwise_cons] at h
    split
    · rename_i hk
      rw [List.pairwise_cons, List.pairwise_cons]
      refine ⟨fun y hy => ?_, h.1, h.2⟩
      rcases List.mem_cons.1 hy with q | q
      · rw [q]
        exact hk
      · exact Int.lt_trans hk (h.1 y q)
    · split
      · rw [List.pairwise_cons]
        exact h
      · rw [List.pairwise_cons]
        refine ⟨fun y hy => ?_, insI_sorted h.2⟩
        rcases insI_mem.1 hy with q | q
        · rw [q]
          omega
        · exact h.1 y q
theorem sortI_mem {y : Int} : ∀ {l : List Int}, y ∈ sortI l ↔ y ∈ l
  | [] => by simp [sortI]
  | k :: r => by rw [sortI, insI_mem, sortI_mem (l := r), List.mem_cons]
theorem sortI_sorted : ∀ l : List Int, (sortI l).Pairwise (· < ·)
  | [] => List.Pairwise.nil
  | k :: r => insI_sorted (sortI_sorted r)
/-- two ascending lists with the same members are one -/
theorem asc_eq : ∀ {a b : List Int}, a.Pairwise (· < ·) → b.Pairwise (· < ·) → (∀ k, k ∈ a ↔ k ∈ b) → a = b
  | [], [], _, _, _ => rfl
  | [], y :: b, _, _, h => by have := (h y).2 (by simp); cases this
  | x :: a, [], _, _, h => by have := (h x).1 (by simp); cases this
  | x :: a, y :: b, ha, hb, h => by
    rw [List.pairwise_cons] at ha hb
    have e : x = y := by
      rcases List.mem_cons.1 ((h x).1 (by simp)) with q | q
      · exact q
      · rcases List.mem_cons.1 ((h y).2 (by simp)) with q2 | q2
        · exact q2.symm
        · have := hb.1 x q
          have := ha.1 y q2
          omega
    subst e
    congr 1
    refine asc_eq ha.2 hb.2 fun k => ⟨fun hk => ?_, fun hk => ?_⟩
    · rcases List.mem_cons.1 ((h k).1 (by simp [hk])) with q | q
      · have := ha.1 k hk
        omega
      · exact q
    · rcases List.mem_cons.1 ((h k).2 (by simp [hk])) with q | q
      · have := hb.1 k hk
        omega
      · exact q
def oSortSet (d : D) : Option (List D) := match d with
  | .lst ds => match intsD ds with
    | some ns => if ns.length < 64 then some ((sortI ns).map D.int) else none
    | none => none
  | _ => none
/-! ### a dict that is written out, of one entry -/
theorem upd_upd {H : Hp} {p : Addr} {x y : HO} : upd (upd H p x) p y = upd H p y := by
  funext b
  by_cases e : b = p
  · subst e
    rw [upd_same, upd_same]
  · rw [upd_ne e, upd_ne e, upd_ne e]
theorem ev_dict1 {S : Type} {J : Jc S} {ρ : Dm.Env} (a b : Int) : Ev J (tDisp [(tC (.int a), tC (.int b))]) ρ (ret (.dct [(.inl a, .int b)])) := fun σ G s H L o Q q p hp => by
  refine ⟨upd_same, [(.inl a, .int b)], rfl, by show 1 ≤ 15; decide, ?_⟩
  rw [upd_upd]
  obtain ⟨sm, o2⟩ := o.lay (u := .dK (mergeK [] [(.inl a, .int b)])) hp
  exact q _ _ _ sm o2 (.dct upd_same)
/-! ### all, min, max of a list -/
def bolsD : List D → Option (List Bool)
  | [] => some []
  | .bl i :: ds => (bolsD ds).map (i :: ·)
  | _ :: _ => none
theorem bolsD_rp {Z : Wo} {G : Hp} : ∀ {ds : List D} {bs : List Bool} {vs : List V}, bolsD ds = some bs → RpAll Z G vs ds → vs = bs.map V.bl
  | [], _, _, h, r => by cases h; cases r; rfl
  | d :: ds, bs, vs, h, r => by
    cases d with
    | bl i =>
      unfold bolsD at h
      cases e : bolsD ds with
      | none => rw [e] at h; cases h
      | some ms =>
        rw [e] at h
        cases h
        cases r with
        | cons r1 r2 =>
          cases r1
          rw [bolsD_rp e r2]
          rfl
    | _ => cases h
def oAll (d : D) : Option D := match d with
  | .lst ds => (bolsD ds).map fun bs => .bl (bs.all id)
  | _ => none
theorem o1_all {S : Type} {J : Jc S} {ρ : Dm.Env} {K : PySem.W.Frag} : Op1 J ρ (rAll K) oAll := fun σ G s H L x d z o rx hz Q q => by
  cases d with
  | lst ds =>
    unfold oAll at hz
    dsimp only at hz
    cases e : bolsD ds with
    | none => rw [e] at hz; cases hz
    | some bs =>
      rw [e] at hz
      cases hz
      obtain ⟨a, vs, rfl, h1, r1⟩ := rX.lst o rx
      rw [bolsD_rp e r1] at h1
      exact ⟨a, bs, rfl, sq_l h1, q _ G H (Same.refl _) o (.bl _)⟩
  | _ => cases hz
def leastI : Int → List Int → Int
  | m, [] => m
  | m, x :: r => leastI (if x < m then x else m) r
theorem leastI_le : ∀ (m : Int) (l : List Int), leastI m l ≤ m ∧ ∀ y ∈ l, leastI m l ≤ y
  | m, [] => ⟨Int.le_refl _, fun y h => nomatch h⟩
  | m, x :: r => by
    have h := leastI_le (if x < m then x else m) r
    unfold leastI
    by_cases c : x < m
    · rw [if_pos c] at h ⊢
      exact ⟨by omega, fun y hy => (List.mem_cons.1 hy).elim (fun e => by rw [e]; exact h.1) (h.2 y)⟩
    · rw [if_neg c] at h ⊢
      exact ⟨h.1, fun y hy => (List.mem_cons.1 hy).elim (fun e => by rw [e]; omega) (h.2 y)⟩
theorem leastI_mem : ∀ (m : Int) (l : List Int), leastI m l ∈ m :: l
  | m, [] => by simp [leastI]
  | m, x :: r => by
    have h := leastI_mem (if x < m then x else m) r
    unfold leastI
    by_cases c : x < m
    · rw [if_pos c] at h ⊢
      exact List.mem_cons_of_mem _ h
    · rw [if_neg c] at h ⊢
      rcases List.mem_cons.1 h with q | q
      · rw [q]
        simp
      · exact List.mem_cons_of_mem _ (List.mem_cons_of_mem _ q)
def oMinL (d : D) : Option D := match d with
  | .lst ds => match intsD ds with
    | some (x :: r) => some (.int (leastI x r))
    | _ => none
  | _ => none
theorem o1_minL {S : Type} {J : Jc S} {ρ : Dm.Env} {K : PySem.W.Frag} : Op1 J ρ (rMin K) oMinL := fun σ G s H L x d z o rx hz Q q => by
  cases d with
  | lst ds =>
    unfold oMinL at hz
    dsimp only at hz
    cases e : intsD ds with
    | none => rw [e] at hz; cases hz
    | some ns =>
      rw [e] at hz
      cases ns with
      | nil => cases hz
      | cons n r =>
        cases hz
        obtain ⟨a, vs, rfl, h1, r1⟩ := rX.lst o rx
        rw [intsD_some e] at r1
        rw [ints_of _ r1] at h1
        refine ⟨a, n :: r, rfl, sq_l h1, Nat.succ_pos _, fun m hm hle => ?_⟩
        have em : m = leastI n r := by
          have h2 := hle _ (leastI_mem n r)
          have h3 := leastI_le n r
          rcases List.mem_cons.1 hm with y | y
          · subst y
            have := h3.1
            omega
          · have := h3.2 m y
            omega
        rw [em]
        exact q _ G H (Same.refl _) o (.int _)
  | _ => cases hz
section
variable {X : Cx} {K : PySem.W.Frag} {w : World}
theorem cr_allK (h : X.K = K) (hc : X.calm = true) : CallR X (.builtin "all") (rAll K) := h ▸ cr_all hc
theorem cr_minK (h : X.K = K) (hc : X.calm = true) : CallR X (.builtin "min") (rMin K) := h ▸ cr_min hc
end
end Dm

set_option Elab.async false
set_option linter.all false
set_option maxRecDepth 100000
set_option maxHeartbeats 2000000
namespace Dm
open PySem PySem.Spec PyProof.Rows L2
section
variable {S : Type} {J : Jc S} {ρ : Dm.Env}
theorem el_sortset {K : PySem.W.Frag} {w : World} {te : TE} {m : MS S D} (h : EvX J te ρ m) : EvL J (tCB (rSortedSet w) (tCons (tCB (rSetI K w) (tCons te tNil)) tNil)) ρ (bnd m fun d => lft (oSortSet d)) := fun σ G s H L o Q q =>
  h.runL o q fun d x G1 s1 H1 e1 o1 rx q1 => PstL.lft q1 fun es he q2 => by
    cases d with
    | lst ds =>
      unfold oSortSet at he
      dsimp only at he
      cases e2 : intsD ds with
      | none => rw [e2] at he; cases he
      | some ns =>
        rw [e2] at he
        dsimp only at he
        obtain ⟨hn, rfl⟩ := ite_some he
        have ed := intsD_some e2
        obtain ⟨a, vs, rfl, h1, r1⟩ := rX.lst o1 rx
        rw [ed] at r1
        have ev : vs = ns.map V.int := ints_of ns r1
        subst ev
        refine ⟨a, ns, rfl, sq_l h1, by omega, fun p c hp hc => ?_⟩
        obtain ⟨sm, o2⟩ := o1.lay (u := SetO w p (fun j => decide (j ∈ ns)) c) hp
        refine ⟨p, _, c, rfl, upd_same, by omega, fun ms p2 hs hm hl hp2 => ?_⟩
        have em : ms = sortI ns := asc_eq hs (sortI_sorted ns) fun k => by
          rw [hm k, sortI_mem]
          simp
        subst em
        exact q2 p2 _ _ _ sm (o2.nw hp2) (ints_rp _)
    | _ => cases he
end
section
variable {X : Cx} {K : PySem.W.Frag} {w : World}
theorem cr_setIK (h : X.K = K) (hw : X.w = w) (hc : X.calm = true) : CallR X (.type "set") (rSetI K w) := h ▸ hw ▸ cr_setI hc
theorem cr_sortedSetK (hw : X.w = w) (hc : X.calm = true) : CallR X (.builtin "sorted") (rSortedSet w) := hw ▸ cr_sortedSet hc
end
end Dm

set_option Elab.async false
set_option linter.all false
set_option maxRecDepth 100000
set_option maxHeartbeats 2000000
namespace Dm
open PySem PySem.Spec PyProof.Rows L2
/-! ### more mathematics of mirrors -/
theorem mk0 : mkL [] = some [] := rfl
theorem mk1 (a : D) : mkL [a] = some [a] := rfl
theorem mk2 (a b : D) : mkL [a, b] = some [a, b] := rfl
theorem mk3 (a b c : D) : mkL [a, b, c] = some [a, b, c] := rfl
theorem mk4 (a b c d : D) : mkL [a, b, c, d] = some [a, b, c, d] := rfl
theorem mk5 (a b c d e : D) : mkL [a, b, c, d, e] = some [a, b, c, d, e] := rfl
theorem mk6 (a b c d e f : D) : mkL [a, b, c, d, e, f] = some [a, b, c, d, e, f] := rfl
theorem mk7 (a b c d e f g : D) : mkL [a, b, c, d, e, f, g] = some [a, b, c, d, e, f, g] := rfl
theorem mk8 (a b c d e f g h : D) : mkL [a, b, c, d, e, f, g, h] = some [a, b, c, d, e, f, g, h] := rfl
theorem mk9 (a b c d e f g h i : D) : mkL [a, b, c, d, e, f, g, h, i] = some [a, b, c, d, e, f, g, h, i] := rfl
theorem tk_ix {cells : List Int} {P : D → Prop} {ds : List D} {k : Int} (h0 : 0 ≤ k) (h1 : k < ds.length) (h : ∀ d ∈ ds, P d) : Tk cells (lft (oIx (.lst ds) (.int k))) P := by
  obtain ⟨x, hx, e⟩ := atI_mem h0 h1
  exact tk_lft e (h x hx)
/-- a drawn thing -/
def Itm (d : D) : Prop := pln d = true ∧ bulkD d ≤ 50 ∧ depD d ≤ 2
theorem itm_int {i : Int} (h : i.natAbs < 1000000000000000000000000000000) : Itm (.int i) := ⟨decide_eq_true h, by simp [bulkD], by simp [depD]⟩
theorem itm_cl {d : D} (h : ∃ k, d = .int k ∧ 0 ≤ k ∧ k < 100) : Itm d := by
  obtain ⟨k, rfl, h0, h1⟩ := h
  exact itm_int (by omega)
theorem forF_all {S τ : Type} {un : D → Option τ} {f : τ → Unit → MS S (Fl Unit Unit)} : ∀ {ds : List D}, (∀ d ∈ ds, ∃ t, un d = some t ∧ f t () = ret (.nx ())) → forF un f ds () = ret (.nx ())
  | [], _ => rfl
  | d :: ds, h => by
    obtain ⟨t, e, ht⟩ := h d (by simp)
    rw [forF_nx e ht]
    exact forF_all fun x hx => h x (by simp [hx])
theorem rgD_cons (n : Int) (k : Nat) : rgD n (k + 1) = .int n :: rgD (n + 1) k := by
  unfold rgD
  rw [List.range_succ_eq_map, List.map_cons, List.map_map]
  congr 1
  · show D.int (n + 0) = _
    rw [Int.add_zero]
  · refine List.map_congr_left fun i _ => ?_
    show D.int (n + ((i + 1 : Nat) : Int)) = D.int (n + 1 + (i : Int))
    congr 1
    omega
/-- a search by places -/
theorem forF_rgHit {S β : Type} {w : D → Option β} {g : Nat → β → D} {f : D → Unit → MS S (Fl Unit Unit)} : ∀ {ds : List D} {n : Nat}, (∀ (i : Nat) (d : D), ds[i]? = some d → f (.int ((n + i : Nat) : Int)) () = ret (hitL (g (n + i)) (w d))) → forF un1 f (rgD (n : Int) ds.length) () = ret (hitF g (fstW w n ds))
  | [], _, _ => rfl
  | d :: ds, n, h => by
    rw [List.length_cons, rgD_cons]
    unfold forF
    rw [show un1 (.int (n : Int)) = some (.int (n : Int)) from rfl, lft_some, bnd_ret, show f (.int (n : Int)) () = ret (hitL (g n) (w d)) from h 0 d rfl]
    unfold fstW
    cases hw : w d with
    | none =>
      have ih := forF_rgHit (w := w) (g := g) (f := f) (ds := ds) (n := n + 1) fun i d hd => by
        have := h (i + 1) d hd
        rw [show n + (i + 1) = n + 1 + i by omega] at this
        exact this
      exact ih
    | some x => rfl
theorem fmt_nat {n : Nat} (h : n < 1000) : fmtD (.int (n : Int)) = true := by
  show sld (decide ((0 : Int) ≤ (n : Int) ∧ (n : Int) < 10 ^ 18)) = true
  rw [sld_eq]
  exact decide_eq_true ⟨by omega, by omega⟩
theorem flts_ints : ∀ ns : List Int, flts (ns.map D.int) = some (ns.map V.int)
  | [] => rfl
  | n :: ns => by
    show (match flt (.int n), flts (ns.map D.int) with | some a, some b => some (a :: b) | _, _ => none) = _
    rw [flts_ints ns]
    rfl
theorem inV_ints (i : Int) : ∀ ns : List Int, inV (.int i) (ns.map V.int) = decide (i ∈ ns)
  | [] => rfl
  | n :: ns => by
    show ((n == i) || inV (.int i) (ns.map V.int)) = _
    rw [inV_ints i ns]
    by_cases h : n = i
    · subst h
      simp
    · have h2 : i ≠ n := fun e => h e.symm
      rw [show (n == i) = false from by simp [h], Bool.false_or]
      simp [h2]
theorem mem_ints {i : Int} {ns : List Int} {d : D} (hd : items d = some (ns.map D.int)) : memD (.int i) d = some (decide (i ∈ ns)) := by
  unfold memD
  rw [hd]
  show (match some (V.int i), (flts (ns.map D.int)) with | some v, some vs => some (inV v vs) | _, _ => none) = _
  rw [flts_ints]
  dsimp only
  rw [inV_ints]
theorem oIn_ints {i : Int} {ns : List Int} {d : D} (hd : items d = some (ns.map D.int)) : oIn (.int i) d = some (.bl (decide (i ∈ ns))) := by
  unfold oIn
  rw [mem_ints hd]
  rfl
theorem oNin_ints {i : Int} {ns : List Int} {d : D} (hd : items d = some (ns.map D.int)) : oNin (.int i) d = some (.bl (!decide (i ∈ ns))) := by
  unfold oNin
  rw [mem_ints hd]
  rfl
/-- the numbers below n with p, as a comprehension makes them -/
theorem lc_range {S : Type} {c : D → MS S Bool} {f : D → MS S D} {n : Nat} {p : Nat → Bool} {g : Nat → D} (hc : ∀ i, i < n → c (.int (i : Int)) = ret (p i)) (hf : ∀ i, i < n → p i = true → f (.int (i : Int)) = ret (g i)) :
    lcM un1 c f (rgD 0 n) = ret (((List.range n).filter p).map g) := by
  refine lcM_retI (e := fun (i : Nat) => D.int (i : Int)) ?_ (fun t ht => hc t (List.mem_range.1 ht)) (fun t ht => hf t (List.mem_range.1 ht))
  unfold rgD
  rw [List.map_map]
  refine List.map_congr_left fun i _ => ?_
  show some (D.int (0 + (i : Int))) = _
  rw [Int.zero_add]
theorem try_ret {S β : Type} {n : Nat} {m : MS S β} {v : β} {hs : List (Nat × (List D → MS S β))} (h : m = ret v) : tryM n m hs = ret v := by
  rw [h]
  rfl
theorem ints_all : ∀ {us : List D}, (∀ d ∈ us, ∃ k, d = .int k) → ∃ ns : List Int, us = ns.map D.int
  | [], _ => ⟨[], rfl⟩
  | d :: us, h => by
    obtain ⟨k, rfl⟩ := h d (by simp)
    obtain ⟨ns, e⟩ := ints_all (us := us) fun x hx => h x (by simp [hx])
    exact ⟨k :: ns, by rw [e]; rfl⟩
theorem fst_hit {β : Type} {w : D → Option β} {n : Nat} {d : D} {ds : List D} {x : β} (h : w d = some x) : fstW w n (d :: ds) = some (n, x) := by
  unfold fstW
  rw [h]
theorem fst_miss {β : Type} {w : D → Option β} {n : Nat} {d : D} {ds : List D} (h : w d = none) : fstW w n (d :: ds) = fstW w (n + 1) ds := by
  rw [fstW, h]
end Dm

set_option Elab.async false
set_option linter.all false
set_option maxRecDepth 100000
set_option maxHeartbeats 2000000
namespace Dm
open PySem PySem.Spec PyProof.Rows L2
/-! ### an own list of own lists -/
section
variable {Z : Wo} {G G' H : Hp} {L B : Led}
theorem QAll.length : ∀ {vs : List V} {dss : List (List D)} {L : Led}, QAll Z G vs dss L → vs.length = dss.length
  | _, _, _, .nil => rfl
  | _, _, _, .cons _ q => congrArg Nat.succ q.length
theorem QAll.one {b : Addr} {ys : List V} {es : List D} (r : RpAll Z G ys es) : ∀ {xs : List V} {dss : List (List D)} {Li : Led}, QAll Z G xs dss Li → QAll Z G (xs ++ [.ref b]) (dss ++ [es]) (Li ++ [(b, .lst ys)])
  | _, _, _, .nil => .cons r .nil
  | _, _, _, .cons q s => .cons q (QAll.one r s)
theorem QAll.get : ∀ {xs : List V} {dss : List (List D)} {Li : Led} {j : Nat} {es : List D}, QAll Z G xs dss Li → dss[j]? = some es → ∃ b ys Li1 Li2, xs[j]? = some (.ref b) ∧ Li = Li1 ++ (b, .lst ys) :: Li2 ∧ RpAll Z G ys es ∧
    ∀ G' zs fs, Same G G' → RpAll Z G' zs fs → QAll Z G' xs (dss.set j fs) (Li1 ++ (b, .lst zs) :: Li2)
  | _, _, _, _, _, .nil, h => by simp at h
  | _, _, _, 0, _, .cons r q, h => by
    simp at h
    subst h
    exact ⟨_, _, [], _, rfl, rfl, r, fun G' zs fs s r2 => .cons r2 (q.mono s)⟩
  | _, _, _, j + 1, _, .cons (b := b0) (ys := ys0) r q, h => by
    obtain ⟨b, ys, Li1, Li2, a1, a2, a3, a4⟩ := q.get (j := j) (by simpa using h)
    exact ⟨b, ys, (b0, .lst ys0) :: Li1, Li2, by simpa using a1, by rw [a2]; rfl, a3, fun G' zs fs s r2 => .cons (r.mono s) (a4 G' zs fs s r2)⟩
theorem QAll.frz {L' : Led} : ∀ {xs : List V} {dss : List (List D)} {Li : Led} {G : Hp}, QAll Z G xs dss Li → Wd G (Li ++ L') H → ∃ G', Same G G' ∧ Wd G' L' H ∧ RpAll Z G' xs (dss.map D.lst)
  | _, _, _, _, .nil, w => ⟨_, Same.refl _, w, .nil⟩
  | _, _, _, _, .cons r q, w => by
    obtain ⟨G', s2, w2, r2⟩ := QAll.frz (q.mono (Wd.frzS w)) (Wd.frz w)
    exact ⟨G', (Wd.frzS w).trans s2, w2, .cons (.lst (s2 _ _ upd_same) ((r.mono (Wd.frzS w)).mono s2)) r2⟩
theorem Cells.ownQ : ∀ {e : Env} {σ : Sl} {L : Led} {i : Nat} {dss : List (List D)}, Cells Z G e σ L → e[i]? = some (.Q dss) →
    ∃ (p : Addr) (xs : List V) (Li L1 L2 : Led), σ[i]? = some (some (.ref p)) ∧ L = L1 ++ ((p, .lst xs) :: (Li ++ L2)) ∧ QAll Z G xs dss Li ∧
      (∀ G' ys es Li', Same G G' → QAll Z G' ys es Li' → Cells Z G' (e.set i (.Q es)) σ (L1 ++ ((p, .lst ys) :: (Li' ++ L2)))) ∧
      (∀ G' ys ds, Same G G' → RpAll Z G' ys ds → Cells Z G' (e.set i (.O ds)) σ (L1 ++ ((p, .lst ys) :: L2)))
  | _, _, _, _, _, .nil, h => by simp at h
  | _, _, _, 0, _, .U c, h => by simp at h
  | _, _, _, 0, _, .P r c, h => by simp at h
  | _, _, _, 0, _, .O r c, h => by simp at h
  | _, _, _, 0, _, .A f c, h => by simp at h
  | _, _, _, 0, _, .Q q c, h => by
    simp at h
    subst h
    exact ⟨_, _, _, [], _, rfl, rfl, q, fun G' ys es Li' s q' => .Q q' (c.mono s), fun G' ys ds s r => .O r (c.mono s)⟩
  | _, _, _, i + 1, _, .U c, h => by
    obtain ⟨p, xs, Li, L1, L2, a1, a2, a3, a4, a5⟩ := c.ownQ (i := i) (by simpa using h)
    exact ⟨p, xs, Li, L1, L2, by simpa using a1, a2, a3, fun G' ys es Li' s q => .U (a4 G' ys es Li' s q), fun G' ys ds s r => .U (a5 G' ys ds s r)⟩
  | _, _, _, i + 1, _, .P r c, h => by
    obtain ⟨p, xs, Li, L1, L2, a1, a2, a3, a4, a5⟩ := c.ownQ (i := i) (by simpa using h)
    exact ⟨p, xs, Li, L1, L2, by simpa using a1, a2, a3, fun G' ys es Li' s q => .P (r.mono s) (a4 G' ys es Li' s q), fun G' ys ds s r2 => .P (r.mono s) (a5 G' ys ds s r2)⟩
  | _, _, _, i + 1, _, .O (p := p0) (xs := xs0) r c, h => by
    obtain ⟨p, xs, Li, L1, L2, a1, a2, a3, a4, a5⟩ := c.ownQ (i := i) (by simpa using h)
    exact ⟨p, xs, Li, (p0, .lst xs0) :: L1, L2, by simpa using a1, by rw [a2]; rfl, a3, fun G' ys es Li' s q => .O (r.mono s) (a4 G' ys es Li' s q), fun G' ys ds s r2 => .O (r.mono s) (a5 G' ys ds s r2)⟩
  | _, _, _, i + 1, _, .A f c, h => by
    obtain ⟨p, xs, Li, L1, L2, a1, a2, a3, a4, a5⟩ := c.ownQ (i := i) (by simpa using h)
    exact ⟨p, xs, Li, L1, L2, by simpa using a1, a2, a3, fun G' ys es Li' s q => .A (fun G2 s2 => f G2 (s.trans s2)) (a4 G' ys es Li' s q), fun G' ys ds s r2 => .A (fun G2 s2 => f G2 (s.trans s2)) (a5 G' ys ds s r2)⟩
  | _, _, _, i + 1, _, .Q (p := p0) (xs := xs0) (Li := Li0) f c, h => by
    obtain ⟨p, xs, Li, L1, L2, a1, a2, a3, a4, a5⟩ := c.ownQ (i := i) (by simpa using h)
    refine ⟨p, xs, Li, (p0, .lst xs0) :: (Li0 ++ L1), L2, by simpa using a1, by rw [a2, List.cons_append, List.append_assoc], a3, fun G' ys es Li' s q => ?_, fun G' ys ds s r2 => ?_⟩
    · rw [List.cons_append, List.append_assoc]
      exact .Q (f.mono s) (a4 G' ys es Li' s q)
    · rw [List.cons_append, List.append_assoc]
      exact .Q (f.mono s) (a5 G' ys ds s r2)
theorem Cells.setQ {p : Addr} {xs : List V} {dss : List (List D)} {Li : Led} (r : QAll Z G xs dss Li) : ∀ {e : Env} {σ : Sl} {L : Led} (i : Nat), Cells Z G e σ L → i < e.length → ∃ L' L1 L2, List.Sublist L' L ∧ L' = L1 ++ L2 ∧ Cells Z G (e.set i (.Q dss)) (σ.set i (some (.ref p))) (L1 ++ ((p, .lst xs) :: (Li ++ L2)))
  | _, _, _, _, .nil, h => absurd h (Nat.not_lt_zero _)
  | _, _, _, 0, .U c, _ => ⟨_, [], _, List.Sublist.refl _, rfl, .Q r c⟩
  | _, _, _, 0, .P q c, _ => ⟨_, [], _, List.Sublist.refl _, rfl, .Q r c⟩
  | _, _, _, 0, .O q c, _ => ⟨_, [], _, List.sublist_cons_self _ _, rfl, .Q r c⟩
  | _, _, _, 0, .A f c, _ => ⟨_, [], _, List.Sublist.refl _, rfl, .Q r c⟩
  | _, _, _, 0, .Q q c, _ => ⟨_, [], _, (List.sublist_append_right _ _).cons _, rfl, .Q r c⟩
  | _, _, _, i + 1, .U c, h => by
    obtain ⟨L', L1, L2, s, e, c'⟩ := c.setQ (p := p) r i (Nat.lt_of_succ_lt_succ h)
    exact ⟨L', L1, L2, s, e, .U c'⟩
  | _, _, _, i + 1, .P q c, h => by
    obtain ⟨L', L1, L2, s, e, c'⟩ := c.setQ (p := p) r i (Nat.lt_of_succ_lt_succ h)
    exact ⟨L', L1, L2, s, e, .P q c'⟩
  | _, _, _, i + 1, .O (p := p0) (xs := xs0) q c, h => by
    obtain ⟨L', L1, L2, s, e, c'⟩ := c.setQ (p := p) r i (Nat.lt_of_succ_lt_succ h)
    exact ⟨_, (p0, .lst xs0) :: L1, L2, s.cons₂ _, by rw [e]; rfl, .O q c'⟩
  | _, _, _, i + 1, .A f c, h => by
    obtain ⟨L', L1, L2, s, e, c'⟩ := c.setQ (p := p) r i (Nat.lt_of_succ_lt_succ h)
    exact ⟨L', L1, L2, s, e, .A f c'⟩
  | _, _, _, i + 1, .Q (p := p0) (xs := xs0) (Li := Li0) q c, h => by
    obtain ⟨L', L1, L2, s, e, c'⟩ := c.setQ (p := p) r i (Nat.lt_of_succ_lt_succ h)
    refine ⟨_, (p0, .lst xs0) :: (Li0 ++ L1), L2, ((List.Sublist.refl _).append s).cons₂ _, by rw [e, List.cons_append, List.append_assoc], ?_⟩
    rw [List.cons_append, List.append_assoc]
    exact .Q q c'
end
section
variable {S : Type} {J : Jc S} {α β γ δ τ : Type} {ρ esc : Env} {σ : Sl} {G G' H : Hp} {L : Led} {T : Ends → Prop} {E : Ends}
def Jc.addL (J : Jc S) (l : Led) : Jc S where
  Z := J.Z
  lay := fun s => l ++ J.lay s
  X := fun _ _ _ _ => False
theorem HandJ.addL {J : Jc Hd} {p c : Addr} {l : Led} (h : HandJ J p c) : HandJ (J.addL l) p c := by
  obtain ⟨L1, L2, e⟩ := h
  exact ⟨l ++ L1, L2, fun hd => by
    show l ++ J.lay hd = _
    rw [e, List.append_assoc]⟩
def NwQ (J : Jc S) (ρ : Env) (G : Hp) (σ : Sl) (L : Led) (s : S) (H : Hp) (p : Addr) (xs : List V) (Li : Led) : Prop := Cells J.Z G ρ σ L ∧ Wd G ((p, .lst xs) :: (Li ++ (L ++ J.lay s))) H
def PstQ (J : Jc S) (ρ : Env) (σ : Sl) (L : Led) (G : Hp) (Q : VK) : Rs S (List (List D)) → Prop
  | .stuck => False
  | .ex c fs s => Out J ρ σ L G c fs s
  | .ok ds s => ∀ p xs Li G' H', Same G G' → NwQ J ρ G' σ L s H' p xs Li → QAll J.Z G' xs ds Li → Q (.ref p) H'
def EvQ (J : Jc S) (te : TE) (ρ : Env) (m : MS S (List (List D))) : Prop := ∀ σ G s H L, Ok J.Z (J.lay s) ρ G σ L H → ∀ Q, PstQ J ρ σ L G Q (m s) → te σ H Q
theorem PstQ.mono {Q : VK} (e : Same G G') : ∀ {r : Rs S (List (List D))}, PstQ J ρ σ L G Q r → PstQ J ρ σ L G' Q r
  | .stuck, h => h
  | .ex _ _ _, h => Out.mono e h
  | .ok _ _, h => fun p xs Li G2 H2 a c => h p xs Li G2 H2 (e.trans a) c
def lcQ (un : D → Option τ) (f : τ → MS S (List D)) : List D → MS S (List (List D))
  | [] => ret []
  | d :: ds => bnd (lft (un d)) fun t => bnd (nex (f t)) fun y => bnd (lcQ un f ds) fun ys => ret (y :: ys)
theorem EvI.runQ {wi : TI} {m : MS S (List D)} {k : List D → MS S (List (List D))} {s : S} {Q : VK} (h1 : EvI J wi ρ m) (o : Ok J.Z (J.lay s) ρ G σ L H) (h : PstQ J ρ σ L G Q (bnd m k s)) {R : It → Hp → Prop}
    (kk : ∀ ds I G' s' H', Same G G' → Ok J.Z (J.lay s') ρ G' σ L H' → Walk I ds.length (fun H => Same G' H) (YD J.Z G' ds) → PstQ J ρ σ L G' Q (k ds s') → R I H') : wi σ H R := by
  refine h1 σ G s H L o _ ?_
  have h' : PstQ J ρ σ L G Q ((m s).go k) := h
  cases e : m s with
  | stuck =>
    rw [e] at h'
    exact h'
  | ex c fs s' =>
    rw [e] at h'
    exact h'
  | ok a s' =>
    rw [e] at h'
    exact fun I G' H' sm o' wk => kk a I G' s' H' sm o' wk (PstQ.mono sm h')
theorem EvL.runC {l : Led} {ρ' : Env} {σ' : Sl} {L' : Led} {te : TE} {Q : VK} {m : MS S (List D)} {k : List D → MS S (List (List D))} {s : S} (h1 : EvL (J.addL l) te ρ' m)
    (o : Ok J.Z (l ++ J.lay s) ρ' G σ' L' H) (h : PstQ J ρ σ L G Q (bnd (nex m) k s)) {P : VK}
    (kk : ∀ a p xs G' s' H', Same G G' → Nw (J.addL l) ρ' G' σ' L' s' H' p xs → RpAll J.Z G' xs a → PstQ J ρ σ L G' Q (k a s') → P (.ref p) H') : te σ' H P := by
  refine h1 σ' G s H L' o _ ?_
  have h' : PstQ J ρ σ L G Q ((nex m s).go k) := h
  unfold nex at h'
  cases e : m s with
  | stuck =>
    rw [e] at h'
    exact h'
  | ex c fs s' =>
    rw [e] at h'
    exact h'.elim
  | ok a s' =>
    rw [e] at h'
    exact fun p xs G' H' sm n r => kk a p xs G' s' H' sm n r (PstQ.mono sm h')
/-- [a new list for ..]: an own list of own lists -/
theorem eq_lc {wi : TI} {g : TG} {te : TE} {un : D → Option τ} {ex : τ → Env → Env} {js vs : List Nat} {m : MS S (List D)} {f : τ → MS S (List D)} (h : EvI J wi ρ m) (hg : ∀ l, Tg (J.addL l) g un ex js)
    (he : ∀ t l, EvL (J.addL l) te (ex t (wipeE ρ vs)) (f t)) (hj : ∀ j ∈ js, j ∈ vs := by decide) (hO : ∀ v ∈ vs, noO ρ[v]? = true := by decide) :
    EvQ J (tLc wi g tYes te vs) ρ (bnd m fun ds => bnd (lft (mkL ds)) fun ds => lcQ un f ds) := fun σ G s H L o Q q =>
  h.runQ o q fun ds0 I G1 s1 H1 e1 o1 wk q1 Dp hD => by
    cases hds : mkL ds0 with
    | none =>
      rw [hds] at q1
      exact q1.elim
    | some ds =>
    rw [hds] at q1
    obtain ⟨rfl, hlen⟩ := mkL_some hds
    refine lc_it wk (fun i H => ∃ as xs Li G2 s2, Same G1 G2 ∧ Cells J.Z G2 ρ σ L ∧ Wd G2 ((Dp, .lst xs) :: (Li ++ (L ++ J.lay s2))) H ∧ QAll J.Z G2 xs as Li ∧ as.length ≤ i ∧ PstQ J ρ σ L G2 Q (bnd (lcQ un f (ds.drop i)) (fun ys => ret (as ++ ys)) s2))
      ⟨[], [], [], G1, s1, Same.refl _, o1.1, o1.2.keep hD, .nil, Nat.le_refl _, ?_⟩ (fun i H _ ⟨as, xs, Li, G2, s2, sm, _, w, _⟩ => sm.trans w.same) (fun i x H2 H3 hi p y => ?_) fun H2 p => ?_
    · have e0 : (bnd (lcQ un f (ds.drop 0)) fun ys => ret ([] ++ ys)) = lcQ un f ds := by
        show (bnd (lcQ un f ds) fun ys => ret ys) = _
        exact bnd_id _
      rw [e0]
      exact q1
    · obtain ⟨as, xs, Li, G2, s2, sm2, c2, w2, r2, hle, q2⟩ := p
      have hl : i < ds.length := hi
      have o2 : Ok J.Z (((Dp, .lst xs) :: Li) ++ J.lay s2) ρ G2 σ L H2 := ⟨c2, w2.perm (List.perm_append_comm_assoc L ((Dp, .lst xs) :: Li) (J.lay s2))⟩
      obtain ⟨d, G3, hd, sm3, o3, r⟩ := y.ok sm2 o2
      have ed : ds.drop i = d :: ds.drop (i + 1) := by
        rw [List.drop_eq_getElem_cons hl]
        rw [List.getElem?_eq_getElem hl] at hd
        cases hd
        rfl
      rw [ed] at q2
      cases hu : un d with
      | none =>
        unfold lcQ at q2
        rw [hu] at q2
        exact q2.elim
      | some t =>
        unfold lcQ at q2
        rw [hu] at q2
        have q3 : PstQ J ρ σ L G2 Q (bnd (bnd (nex (f t)) fun y => bnd (lcQ un f (ds.drop (i + 1))) fun ys => ret (y :: ys)) (fun ys => ret (as ++ ys)) s2) := q2
        rw [bnd_bnd] at q3
        have ow : Ok (J.addL ((Dp, .lst xs) :: Li)).Z ((J.addL ((Dp, .lst xs) :: Li)).lay s2) (wipeE ρ vs) G3 (L2.wipe σ vs) L H3 := ⟨o3.1.wipe hO, o3.2⟩
        refine (hg ((Dp, .lst xs) :: Li)).go d t _ x _ G3 s2 H3 L hu ow r _ fun σ4 L4 o4 hlen4 hsame hL4 => ?_
        have eL : L4 = L := hL4 fun j hjj => wipeE_O (hO j (hj j hjj)) vs
        subst eL
        refine ⟨wipe_back hj hlen4 hsame, ?_⟩
        refine (he t ((Dp, .lst xs) :: Li)).runC (ρ := ρ) (σ := σ) (L := L4) o4 (PstQ.mono sm3 q3) fun es p' ys G6 s6 H6 sm6 n6 ry q6 => ?_
        have w6 : Wd G6 ((Dp, .lst xs) :: ((Li ++ [(p', .lst ys)]) ++ (L4 ++ J.lay s6))) H6 := n6.2.perm (by
          rw [List.append_assoc, List.cons_append, List.nil_append]
          refine List.Perm.trans (List.Perm.cons _ List.perm_middle) ?_
          refine List.Perm.trans (List.Perm.swap _ _ _) ?_
          exact List.Perm.cons _ (List.perm_append_comm_assoc ((Dp, HO.lst xs) :: Li) L4 (J.lay s6)))
        have sm36 := sm3.trans sm6
        refine ⟨xs, (w6.own (Dp, .lst xs) List.mem_cons_self).1, long_lt (by rw [r2.length]; omega), as ++ [es], xs ++ [V.ref p'], Li ++ [(p', HO.lst ys)], G6, s6, sm2.trans sm36, c2.mono sm36, Wd.put (L1 := []) (o' := HO.lst (xs ++ [V.ref p'])) w6, QAll.one ry (r2.mono sm36), by rw [List.length_append]; exact Nat.succ_le_succ hle, ?_⟩
        rw [bnd_bnd] at q6
        have e9 : (bnd (lcQ un f (ds.drop (i + 1))) fun ys => bnd (ret (es :: ys)) fun ys => ret (as ++ ys)) = bnd (lcQ un f (ds.drop (i + 1))) fun ys => (ret (as ++ [es] ++ ys) : MS S (List (List D))) := by
          congr 1
          funext ys
          show ret (as ++ es :: ys) = _
          rw [List.append_assoc]
          rfl
        rw [e9] at q6
        exact q6
    · obtain ⟨as, xs, Li, G2, s2, sm2, c2, w2, r2, hle, q2⟩ := p
      rw [List.drop_length] at q2
      have q3 : PstQ J ρ σ L G2 Q (.ok (as ++ []) s2) := q2
      rw [List.append_nil] at q3
      exact q3 Dp xs Li G2 H2 (Same.refl _) ⟨c2, w2⟩ r2
theorem NwQ.set {s : S} {p : Addr} {xs : List V} {Li : Led} {dss : List (List D)} {i : Nat} (n : NwQ J ρ G σ L s H p xs Li) (r : QAll J.Z G xs dss Li) (hi : i < ρ.length) : ∃ L', Ok J.Z (J.lay s) (ρ.set i (.Q dss)) G (σ.set i (some (.ref p))) L' H := by
  obtain ⟨c, w⟩ := n
  obtain ⟨L', L1, L2, sb, e, c'⟩ := c.setQ (p := p) r i hi
  refine ⟨_, c', ?_⟩
  have w1 := w.sub (((List.Sublist.refl Li).append (sb.append (List.Sublist.refl (J.lay s)))).cons₂ (p, HO.lst xs))
  refine w1.perm ?_
  rw [e, List.append_assoc, List.append_assoc, List.cons_append, List.append_assoc]
  exact List.perm_append_comm_assoc L1 ((p, HO.lst xs) :: Li) (L2 ++ J.lay s)
theorem EvQ.runS {t : TE} {m : MS S (List (List D))} {k : List (List D) → MS S β} {s : S} {fin : β → Fin} (h1 : EvQ J t ρ m) (o : Ok J.Z (J.lay s) ρ G σ L H) (w : Wk ρ esc)
    (h : Pss J esc G E fin (bnd m k s)) {P : V → Hp → Prop} (kk : ∀ ds p xs Li G' s' H', Same G G' → NwQ J ρ G' σ L s' H' p xs Li → QAll J.Z G' xs ds Li → Pss J esc G' E fin (k ds s') → P (.ref p) H') : t σ H P := by
  refine h1 σ G s H L o _ ?_
  have h' : Pss J esc G E fin ((m s).go k) := h
  cases e : m s with
  | stuck =>
    rw [e] at h'
    exact h'
  | ex c fs s' =>
    rw [e] at h'
    exact h'.out w
  | ok a s' =>
    rw [e] at h'
    exact fun p xs Li G' H' sm n r => kk a p xs Li G' s' H' sm n r (Pss.mono sm h')
theorem sv_asgQ {te : TE} {i : Nat} {m : MS S (List (List D))} (h : EvQ J te ρ m) (w : Wk ρ esc) (hi : i < ρ.length := by decide) : Sv J Ta esc (tAsg te (gName i)) ρ m (fun dss => .nx (ρ.set i (.Q dss))) := fun σ G s H L o E _ q => by
  refine h.runS (k := ret) o w (by rw [bnd_id]; exact q) fun ds p xs Li G1 s1 H1 e1 n r q1 => ?_
  obtain ⟨L', o2⟩ := n.set r hi
  exact q1 _ G1 H1 L' (Same.refl _) o2
/-- the inner lists stay as they are from now on -/
theorem Ok.frzQ {B : Led} {i : Nat} {dss : List (List D)} (o : Ok J.Z B ρ G σ L H) (h : ρ[i]? = some (.Q dss)) : ∃ G' L', Same G G' ∧ Ok J.Z B (ρ.set i (.O (dss.map D.lst))) G' σ L' H := by
  obtain ⟨c, w⟩ := o
  obtain ⟨p, xs, Li, L1, L2, _, e, q, _, a5⟩ := c.ownQ h
  subst e
  have w' : Wd G (Li ++ (L1 ++ ((p, .lst xs) :: (L2 ++ B)))) H := w.perm (by
    rw [List.append_assoc, List.cons_append, List.append_assoc]
    refine List.Perm.trans (List.perm_append_comm_assoc _ _ _) ?_
    exact List.Perm.append_left L1 List.perm_middle)
  obtain ⟨G', s2, w2, r2⟩ := q.frz w'
  refine ⟨G', _, s2, a5 G' xs _ s2 r2, ?_⟩
  rw [List.append_assoc, List.cons_append]
  exact w2
theorem sv_frzQ {t : TS} {m : MS S α} {fin : α → Fin} {i : Nat} {dss : List (List D)} (hi : ρ[i]? = some (.Q dss)) (h : Sv J T esc t (ρ.set i (.O (dss.map D.lst))) m fin) : Sv J T esc t ρ m fin := fun σ G s H L o E ht q => by
  obtain ⟨G', L', sm, o'⟩ := o.frzQ hi
  exact h σ G' s H L' o' E ht (Pss.mono sm q)
/-- where it stands -/
theorem Ok.ownQ {B : Led} {i : Nat} {dss : List (List D)} (o : Ok J.Z B ρ G σ L H) (h : ρ[i]? = some (.Q dss)) : ∃ (p : Addr) (xs : List V) (Li L1 L2 : Led), σ[i]? = some (some (.ref p)) ∧ L = L1 ++ ((p, .lst xs) :: (Li ++ L2)) ∧ H p = some (.lst xs) ∧ QAll J.Z G xs dss Li ∧
    (∀ b ys, (b, HO.lst ys) ∈ Li → H b = some (.lst ys)) ∧ ∀ G' ys es Li', Same G G' → QAll J.Z G' ys es Li' → Cells J.Z G' (ρ.set i (.Q es)) σ (L1 ++ ((p, .lst ys) :: (Li' ++ L2))) := by
  obtain ⟨c, w⟩ := o
  obtain ⟨p, xs, Li, L1, L2, a1, a2, a3, a4, _⟩ := c.ownQ h
  subst a2
  exact ⟨p, xs, Li, L1, L2, a1, rfl, (w.own (p, .lst xs) (by simp)).1, a3, fun b ys hb => (w.own (b, .lst ys) (by simp [hb])).1, a4⟩
/-- the same slot, told twice: the same places -/
theorem Ok.sameQ {B' : Led} {H' : Hp} {p : Addr} {xs : List V} {Li L1 L2 : Led} (o' : Ok J.Z B' ρ G' σ L H') (e : L = L1 ++ ((p, .lst xs) :: (Li ++ L2))) : H' p = some (.lst xs) := by
  subst e
  exact (o'.2.own (p, .lst xs) (by simp)).1
def atQ (dss : List (List D)) : D → Option Nat
  | .int z => ixN dss.length z
  | _ => none
def inQ (dss : List (List D)) (j : Nat) : List D := (dss[j]?).getD []
theorem atQ_lt {dss : List (List D)} {z : Int} {j : Nat} (h : ixN dss.length z = some j) : dss[j]? = some (inQ dss j) := by
  have := (ixN_seq h).2.1
  unfold inQ
  rw [List.getElem?_eq_getElem this]
  rfl
theorem ev_lenQ {K : PySem.W.Frag} {i : Nat} {dss : List (List D)} (hi : ρ[i]? = some (.Q dss)) : Ev J (tCB (rLn K) (tCons (tVar i) tNil)) ρ (ret (.int dss.length)) := EvG.pure fun σ G s H L o Q q => by
  obtain ⟨p, xs, Li, L1, L2, a1, a2, a3, a4, _, _⟩ := o.ownQ hi
  refine ⟨.ref p, a1, .inl ⟨.ref p, xs.length, rfl, .inl ⟨xs, sq_l a3, rfl⟩, ?_⟩⟩
  rw [a4.length]
  exact q _ G H (Same.refl _) o (.int _)
theorem et_truQ {K : PySem.W.Frag} {i : Nat} {dss : List (List D)} (hi : ρ[i]? = some (.Q dss)) : EvT J (fun σ H Q => tVar i σ H fun x H1 => ∃ k, TruV K x H1 k ∧ Q k H1) ρ (ret (!dss.isEmpty)) := EvG.pure fun σ G s H L o Q q => by
  obtain ⟨p, xs, Li, L1, L2, a1, a2, a3, a4, _, _⟩ := o.ownQ hi
  exact ⟨.ref p, a1, !dss.isEmpty, .inl ⟨xs, sq_l a3, by cases a4 <;> rfl⟩, q _ G H (Same.refl _) o rfl⟩
theorem ev_lenQ2 {K : PySem.W.Frag} {i : Nat} {dss : List (List D)} {ti : TE} {n : MS S D} (hi : ρ[i]? = some (.Q dss)) (hk : Ev J ti ρ n) : Ev J (tCB (rLn K) (tCons (tOp (rIx K) (tVar i) ti) tNil)) ρ (bnd n fun a => bnd (lft (atQ dss a)) fun j => ret (.int (inQ dss j).length)) := fun σ G s H L o Q q => by
  obtain ⟨p, xs, Li, L1, L2, a1, a2, a3, a4, a5, _⟩ := o.ownQ hi
  refine ⟨.ref p, a1, hk.run o q fun k u G2 s2 H2 e2 o2 rk q2 => ?_⟩
  cases k with
  | int z =>
    cases e : ixN dss.length z with
    | none =>
      rw [show atQ dss (.int z) = ixN dss.length z from rfl, e] at q2
      exact q2.elim
    | some j =>
      rw [show atQ dss (.int z) = ixN dss.length z from rfl, e] at q2
      obtain ⟨p2, xs2, Li2, L12, L22, b1, b2, b3, b4, b5, _⟩ := o2.ownQ hi
      rw [a1] at b1
      cases b1
      obtain ⟨b, ys, M1, M2, c1, c2, c3, _⟩ := b4.get (atQ_lt e)
      have hb : H2 b = some (.lst ys) := b5 b ys (by rw [c2]; simp)
      refine .inl ⟨p, xs2, z, .ref b, rfl, rX.int (J := J) (ρ := ρ) (σ := σ) (.inl rk), sq_l b3, ?_, .inl ⟨.ref b, ys.length, rfl, .inl ⟨ys, sq_l hb, rfl⟩, ?_⟩⟩
      · unfold atI
        rw [b4.length, e]
        exact c1
      · rw [c3.length]
        exact q2 _ G2 H2 (Same.refl _) o2 (.int _)
  | _ => exact q2.elim
def setQ (dss : List (List D)) (j : Nat) (k d : D) : Option (List (List D)) := (set1 (inQ dss j) k d).map fun es => dss.set j es
/-- xs[a][b] = e -/
theorem sv_setQ {K : PySem.W.Frag} {i : Nat} {dss : List (List D)} {te ta tb : TE} {m n1 n2 : MS S D} (hi : ρ[i]? = some (.Q dss)) (h : Ev J te ρ m) (hk : Ev J ta ρ n1) (hk2 : Ev J tb ρ n2) (w : Wk ρ esc) :
    Sv J Ta esc (tAsg te (gSub (tOp (rIx K) (tVar i) ta) tb rSetL)) ρ (bnd m fun d => bnd n1 fun a => bnd (lft (atQ dss a)) fun j => bnd n2 fun b => lft (setQ dss j b d)) (fun es => .nx (ρ.set i (.Q es))) := fun σ G s H L o E _ q =>
  h.runS o w q fun d v G1 s1 H1 e1 o1 r q1 => by
    obtain ⟨p, xs, Li, L1, L2, a1, a2, a3, a4, a5, _⟩ := o1.ownQ hi
    refine ⟨.ref p, a1, hk.runS o1 w q1 fun k u G2 s2 H2 e2 o2 rk q2 => ?_⟩
    cases k with
    | int z =>
      cases e : ixN dss.length z with
      | none =>
        rw [show atQ dss (.int z) = ixN dss.length z from rfl, e] at q2
        exact q2.elim
      | some j =>
        rw [show atQ dss (.int z) = ixN dss.length z from rfl, e] at q2
        have q2 : Pss J esc G2 E (fun es => .nx (ρ.set i (.Q es))) ((bnd n2 fun b => lft (setQ dss j b d)) s2) := q2
        obtain ⟨p2, xs2, Li2, L12, L22, b1, b2, b3, b4, b5, _⟩ := o2.ownQ hi
        rw [a1] at b1
        cases b1
        obtain ⟨b, ys, M1, M2, c1, c2, c3, _⟩ := b4.get (atQ_lt e)
        refine .inl ⟨p, xs2, z, .ref b, rfl, rX.int (J := J) (ρ := ρ) (σ := σ) (.inl rk), sq_l b3, by unfold atI; rw [b4.length, e]; exact c1, ?_⟩
        refine hk2.runS o2 w q2 fun k2 u2 G3 s3 H3 e3 o3 rk2 q3 => Pss.lft q3 fun es he q4 => ?_
        obtain ⟨p3, xs3, Li3, L13, L23, d1, d2, d3, d4, d5, d6⟩ := o3.ownQ hi
        rw [a1] at d1
        cases d1
        have ex : xs3 = xs2 := by
          have := o3.sameQ b2
          rw [d3] at this
          cases this
          rfl
        obtain ⟨b', zs, N1, N2, f1, f2, f3, f4⟩ := d4.get (atQ_lt e)
        have eb : b' = b := by
          rw [ex, c1] at f1
          cases f1
          rfl
        subst eb
        have hb : H3 b' = some (.lst zs) := d5 b' zs (by rw [f2]; simp)
        cases k2 with
        | int z2 =>
          unfold setQ set1 at he
          dsimp only at he
          cases e4 : ixN (inQ dss j).length z2 with
          | none => rw [e4] at he; cases he
          | some j2 =>
            rw [e4] at he
            cases he
            refine ⟨b', zs, z2, j2, rfl, rX.int (J := J) (ρ := ρ) (σ := σ) (.inl rk2), hb, by rw [f3.length]; exact e4, ?_⟩
            have r3 := f3.set ((r.mono e2).mono e3) j2
            refine q4 σ G3 _ _ (Same.refl _) ⟨d6 G3 _ _ _ (Same.refl _) (f4 G3 _ _ (Same.refl _) r3), ?_⟩
            have w3 := o3.2
            rw [d2, f2] at w3
            have e5 : ∀ x : HO, (L13 ++ (p, HO.lst xs3) :: (N1 ++ (b', x) :: N2 ++ L23)) ++ J.lay s3 = (L13 ++ (p, HO.lst xs3) :: N1) ++ (b', x) :: (N2 ++ L23 ++ J.lay s3) := fun x => by simp
            rw [e5] at w3
            rw [e5]
            exact w3.put
        | _ => cases he
    | _ => exact q2.elim
end
def pickB {S β : Type} (o : Option (List D → MS S β)) (fs : List D) : MS S β := match o with
  | some h => nex (h fs)
  | none => stk
def hsB {S β : Type} (n : Nat) (hs : List (Nat × (List D → MS S β))) (c : Nat) (fs : List D) : MS S β := if c < n then pickB (hs.lookup c) fs else stk
/-- try with clauses behind those that are told: what they do is not said -/
def tryB {S β : Type} (n : Nat) (m : MS S β) (hs : List (Nat × (List D → MS S β))) : MS S β := fun s => (m s).cat (hsB n hs)
section
variable {S β : Type} {J : Jc S} {T : Ends → Prop} {esc ρ : Dm.Env} {G : Hp} {E : Ends}
inductive HsB (J : Jc S) (T : Ends → Prop) (esc escB : Dm.Env) (fin : β → Dm.Fin) : List Cls3 → List (Nat × (List D → MS S β)) → Prop
  | rest {l : List Cls3} : HsB J T esc escB fin l []
  | name {c i : Nat} {ts : Addr → Value → Option Addr → TS} {h : List D → MS S β} {l : List Cls3} {hs : List (Nat × (List D → MS S β))}
      (hu : ∀ a dx fs, Sv J.quiet T (escB.set i (.A a (xF J.Z dx c fs))) (ts a (.ref (J.Z.cl c)) (some dx)) (escB.set i (.A a (xF J.Z dx c fs))) (h fs) fin) (hf : ∀ b, Frz0 i (fin b)) (r : HsB J T esc escB fin l hs) : HsB J T esc escB fin ((.ref (J.Z.cl c), some i, ts) :: l) ((c, h) :: hs)
  | bare {c : Nat} {ts : Addr → Value → Option Addr → TS} {h : List D → MS S β} {l : List Cls3} {hs : List (Nat × (List D → MS S β))}
      (hu : ∀ a dx fs, Sv J.quiet T escB (ts a (.ref (J.Z.cl c)) (some dx)) escB (h fs) fin) (r : HsB J T esc escB fin l hs) : HsB J T esc escB fin ((.ref (J.Z.cl c), none, ts) :: l) ((c, h) :: hs)
theorem sv_tryB {K : PySem.W.Frag} {n : Nat} {tb : WX → TS} {Wo : WX} {l : List Cls3} {hs : List (Nat × (List D → MS S β))} {m : MS S β} {escB : Dm.Env} {fin : β → Dm.Fin} (hT : ∀ E i, T E → T (gone E i)) (hx : ∀ c c', c < n → c' < n → PySem.W.exmOne K (.ref (J.Z.cl c)) (.ref (J.Z.cl c')) = some (decide (c = c')))
    (hb : ∀ X, Sv (J.to X) T escB (tb X) ρ m fin) (hh : HsB J T esc escB fin l hs) (hn : ∀ p ∈ hs, p.1 < n) (we : Wk escB esc) (hW : Wo = J.X := by rfl) : Sv J T esc (tTry K tb Wo l) ρ (tryB n m hs) fin := fun σ G s H L o E ht q => by
  subst hW
  refine hb (wHs K J.X E l) σ G s H L o E ht ?_
  have q1 : Pss J esc G E fin ((m s).cat (hsB n hs)) := q
  cases e : m s with
  | stuck =>
    rw [e] at q1
    exact q1
  | ok d s' =>
    rw [e] at q1
    have q1 : Fo J G E s' (fin d) := q1
    show Fo (J.to (wHs K J.X E l)) G E s' (fin d)
    cases hf : fin d <;> (rw [hf] at q1; exact q1)
  | ex c fs s' =>
    rw [e] at q1
    have q2 : Pss J esc G E fin (hsB n hs c fs s') := q1
    unfold hsB at q2
    by_cases hc : c < n
    · rw [if_pos hc] at q2
      intro σ1 dx vs G1 H1 L1 sm o1 hd hl hr
      have known : xF J.Z dx c fs G1 := ⟨vs, hd, hl, hr⟩
      have ran : ∀ {h : List D → MS S β} {i : Option Nat}, (∀ b, FrzO i (fin b)) → Pss J esc G E fin (pickB (some h) fs s') → ∀ esc', Pss J.quiet esc' G1 (gone E i) fin (h fs s') := fun {h i} hi q3 esc' => by
        have q4 : Pss J esc G E fin (nex (h fs) s') := q3
        unfold nex at q4
        cases e3 : h fs s' with
        | stuck => rw [e3] at q4; exact q4
        | ex _ _ _ => rw [e3] at q4; exact q4.elim
        | ok d s2 => rw [e3] at q4; exact Fo.goneF (hi d) (Fo.mono sm q4)
      have each : ∀ {l' : List Cls3} {hs' : List (Nat × (List D → MS S β))}, HsB J T esc escB fin l' hs' → (∀ p ∈ hs', p.1 < n) → Pss J esc G E fin (pickB (hs'.lookup c) fs s') → wHs K J.X E l' (.ref (J.Z.cl c)) (some dx) σ1 H1 := by
        intro l' hs' hk
        induction hk with
        | rest =>
          intro _ q3
          exact False.elim q3
        | @name c' i ts h l2 hs2 hu hf r ih =>
          intro hn2 q3
          have hc' : c' < n := hn2 (c', h) (by simp)
          refine ⟨_, hx c c' hc hc', fun hb a ha => ?_, fun hb => ?_⟩
          · have ec : c = c' := of_decide_eq_true hb
            subst ec
            rw [List.lookup_cons_self] at q3
            obtain ⟨L2, o2⟩ := o1.setA (i := i) (a := a) (F := xF J.Z dx c fs) fun G' s' => xF.mono known s'
            exact hu a dx fs _ G1 s' H1 L2 o2 _ (hT E (some i) ht) (ran (i := some i) hf q3 _)
          · have ec : c ≠ c' := of_decide_eq_false hb
            rw [List.lookup_cons, beq_false_of_ne ec] at q3
            exact ih (fun p hp => hn2 p (by simp [hp])) q3
        | @bare c' ts h l2 hs2 hu r ih =>
          intro hn2 q3
          have hc' : c' < n := hn2 (c', h) (by simp)
          refine ⟨_, hx c c' hc hc', fun hb a ha => ?_, fun hb => ?_⟩
          · have ec : c = c' := of_decide_eq_true hb
            subst ec
            rw [List.lookup_cons_self] at q3
            exact hu a dx fs _ G1 s' H1 L1 o1 _ (hT E none ht) (ran (i := none) (fun _ => trivial) q3 _)
          · have ec : c ≠ c' := of_decide_eq_false hb
            rw [List.lookup_cons, beq_false_of_ne ec] at q3
            exact ih (fun p hp => hn2 p (by simp [hp])) q3
      exact each hh hn q2
    · rw [if_neg hc] at q2
      exact q2.elim
end
/-! ### keywords within try -/
def tCallNS (n k : Nat) (sp : Sp) (gV : List V → List V → List V) (E : L2.St → XK) (t tk : TA) : TE := fun σ H Q => t σ H fun vs H1 => tk σ H1 fun zs H2 => vs.length = n ∧ zs.length = k ∧ sp (gV vs zs) H2 Q (E σ)
section
variable {X : Cx} {CX : CXT} {n : Nat} {fa : Addr} {fd : FuncData} {x : Str} {ps : List Str} {sp : Sp} {E : L2.St → XK} {e : Expr} {es : List Expr} {kws : List Keyword} {t tk : TA} {p pos : Pos} {j : Nat} {ks : List Str} {g : List Value → List Value → List Value} {gV : List V → List V → List V}
theorem run_GNs {E1 : XK} {pins : List (Addr × Obj)} {σ : L2.St} {H : Hp} {s : Shared} {Q : VK} {us ws : List Value} {vs zs : List V} (G : X.A.guards = some []) (F : FnG X.prog X.w X.K X.mg X.base CX n fa fd ps sp) (room : Room n X.A) (bt : KBn X.K fd ps j ks g gV) (out : PassesAt CX X σ E1)
    (I : Inv X pins σ H s) (r : Vals vs us) (rz : Vals zs ws) (l1 : vs.length = j) (l2 : zs.length = ks.length) (z : sp (gV vs zs) H Q E1) : wpAny (model X.prog X.w) X.A (call (.ref fa) us (ks.zip ws)) (EP X pins σ Q) X.xe s := by
  have b := bt.to s us ws I.kIn (r.length.symm.trans l1) (rz.length.symm.trans l2)
  refine wpAny_call (codeAny_mono (F.go X.A X.stack s H ⟨us, ks.zip ws⟩ (g us ws) (gV vs zs) Q E1 G room I.env0 b (bt.rel r rz) z) fun re s' hq => ?_)
  match re, hq with
  | .error er, hq => exact out pins H s er s' I hq
  | .ok (.ret u), hq => exact I.after hq
  | .ok .next, hq => exact hq.elim
  | .ok .brk, hq => exact hq.elim
  | .ok .cont, hq => exact hq.elim
theorem pe_callGNs (G : X.A.guards = some []) (F : FnG X.prog X.w X.K X.mg X.base CX n fa fd ps sp) (room : Room n X.A) (hg : Gl X x) (hm : X.mg x = some (.ref fa)) (hk : PySem.W.keepIn X.K (.ref fa) = true) (bt : KBn X.K fd ps j ks g gV) (out : ∀ σ, PassesAt CX X σ (E σ))
    (ha : PA X (e :: es) t) (hkw : PK X kws tk) (hall : (backToKw pos (keywordEach kws X.env)).all (·.1.isSome) = true := by rfl) (hks : (backToKw pos (keywordEach kws X.env)).filterMap (·.1) = ks := by rfl)
    (hdb : (x == ("__debug__" : Str)) = false := by decide) (he : starEach (e :: es) X.env = (false, eval e X.env) :: starEach es X.env := by rfl)
    (hpl : ((backTo pos (starEach (e :: es) X.env)).any (·.1) || (backToKw pos (keywordEach kws X.env)).any (·.1.isNone)) = false := by rfl) : PE X (.Call (.Name x p) (e :: es) kws pos) (tCallNS j ks.length sp gV E t tk) where
  run := fun pins s σ H Q I h => by
    refine wpAny_Call_Name_kw (ld_glob I hg hm (PySem.W.callWith_KW (h₀ := X.base) I.ok.mod.kin hk hall (thn (ha.run pos pins s σ H _ I h) ?_) hpl he) hdb)
    rintro us s1 ⟨vs, H1, I1, r, q⟩
    refine thn (hkw.run pos pins s1 σ H1 _ I1 q) ?_
    rintro ws s2 ⟨zs, H2, I2, rz, l1, l2, q2⟩
    refine ⟨I2.kIn, ?_⟩
    rw [hks]
    exact run_GNs G F room bt (out σ) I2 r rz l1 l2 q2
end
section
variable {S : Type} {J : Jc S} {ρ : Dm.Env}
theorem ev_callNS {n k : Nat} {m : (S : Type) → List D → MS S D} {gV : List V → List V → List V} {gD : List D → List D → List D} {ta tk : TA} {ma mk : MS S (List D)} (h : EvA J ta ρ ma) (hk : EvA J tk ρ mk)
    (hg : ∀ G vs ds zs es, RpAll J.Z G vs ds → RpAll J.Z G zs es → ds.length = n → es.length = k → RpAll J.Z G (gV vs zs) (gD ds es)) :
    Ev J (tCallNS n k (spM J.Z m) gV (WE J.X) ta tk) ρ (bnd ma fun ds => bnd mk fun es => if ds.length = n ∧ es.length = k then m S (gD ds es) else stk) := fun σ G s H L o Q q =>
  h.run o q fun ds xs G1 s1 H1 e1 o1 r q1 => hk.run o1 q1 fun es zs G2 s2 H2 e2 o2 rz q2 => by
    by_cases hl : ds.length = n ∧ es.length = k
    · rw [if_pos hl] at q2
      have r2 := RpAll.mono e2 r
      refine ⟨r2.length.trans hl.1, RpAll.length rz |>.trans hl.2, S, fun s => L ++ J.lay s, G2, s2, gD ds es, o2.2, hg G2 xs ds zs es r2 rz hl.1 hl.2, ?_⟩
      cases e : m S (gD ds es) s2 with
      | stuck =>
        rw [e] at q2
        exact q2
      | ex c fs s3 =>
        rw [e] at q2
        exact fun dx vs G' H' sm w a b rr => q2 dx vs G' H' sm ⟨o2.1.mono sm, w⟩ a b rr
      | ok d s3 =>
        rw [e] at q2
        exact fun v G' H' sm w rr => q2 v G' H' sm ⟨o2.1.mono sm, w⟩ rr
    · rw [if_neg hl] at q2
      exact q2.elim
end
/-! ### comprehensions within comprehensions -/
def relS (scope sc : Scope) : Scope := { scope with names := scope.names.map fun (n, k) => if (k == .free && sc.kind == .function && sc.names.lookup n == some .cell) then (n, .cell) else (n, k) }
theorem blkOk_in {N : List Str} {sc scope0 scope : Scope} {own : List (Str × Nat)} {cl : List (Str × Addr)} {C : Addr} {env : PySem.Env} (e : env.scope = sc) (h : blkC N (relS scope0 sc) scope own = true) : BlkOk N (compEnvC scope0 cl C env).scope scope own := by
  subst e
  exact blkOk_by h
/-! ### a, b = a tuple or a list -/
def gSeq (K : PySem.W.Frag) (n : Nat) (t : TGs) : TG := fun v σ H Q => gTup K n t v σ H Q ∨ gLst K n t v σ H Q
theorem pg_seqK {X : Cx} {K : PySem.W.Frag} (hK : X.K = K) {pos : Pos} {es : List Expr} {k : Nat} {t : TGs} {n : Nat} (hc : X.calm = true) (ht : PGs X es t) (hn : (assignEach es X.env).length = n := by rfl) (hf : List.findIdx? (fun x => x.fst) (assignEach es X.env) = none := by rfl) : PG X (.Tuple es k pos) (gSeq K n t) :=
  hK ▸ ⟨fun pins s σ H v u Q I r hw => hw.elim (fun h => (pg_tup hc ht hn hf).run pins s σ H v u Q I r h) fun h => (pg_lst hc ht hn hf).run pins s σ H v u Q I r h⟩
def un2s : D → Option (D × D)
  | .tup [a, b] => some (a, b)
  | .lst [a, b] => some (a, b)
  | .lnt [a, b] => some (a, b)
  | _ => none
theorem un2s_of {d a b : D} (h : items d = some [a, b]) : un2s d = some (a, b) := by
  cases d <;> first | (cases h; done) | (cases h; rfl)
theorem un2s_some {d : D} {t : D × D} (h : un2s d = some t) : d = .tup [t.1, t.2] ∨ d = .lst [t.1, t.2] ∨ d = .lnt [t.1, t.2] := by
  unfold un2s at h
  split at h
  · cases h
    exact .inl rfl
  · cases h
    exact .inr (.inl rfl)
  · cases h
    exact .inr (.inr rfl)
  · cases h
theorem tg_pairS {S : Type} {J : Jc S} {K : PySem.W.Frag} (i j : Nat) : Tg J (gSeq K 2 (gCons (gName i) (gCons (gName j) gNil))) un2s (fun t ρ => (ρ.set i (.P t.1)).set j (.P t.2)) [i, j] where
  go := fun d t ρ x σ G s H L hu o r Q q => by
    rcases un2s_some hu with e | e | e
    · subst e
      exact .inl ((tg_pair (K := K) i j).go _ t ρ x σ G s H L rfl o r Q q)
    · subst e
      right
      cases r with
      | lst h1 r1 =>
        cases r1 with
        | cons ra r2 =>
          cases r2 with
          | cons rb r3 =>
            cases r3
            obtain ⟨L1, o1, h2⟩ := o.setP (i := i) ra
            obtain ⟨L2, o2, h3⟩ := o1.setP (i := j) rb
            refine ⟨_, _, rfl, sq_l (o.same _ _ h1), rfl, _, _, rfl, _, _, rfl, rfl, ?_⟩
            refine q _ L2 o2 (by simp) (fun k hk => ?_) fun h => ?_
            · rw [List.getElem?_set_ne (fun e => hk (by simp [e])), List.getElem?_set_ne (fun e => hk (by simp [e]))]
            · rw [h3 (set_O (h j (by simp))), h2 (h i (by simp))]
    · subst e
      right
      cases r with
      | lnt h1 r1 =>
        cases r1 with
        | cons ra r2 =>
          cases r2 with
          | cons rb r3 =>
            cases r3
            obtain ⟨L1, o1, h2⟩ := o.setP (i := i) ra
            obtain ⟨L2, o2, h3⟩ := o1.setP (i := j) rb
            refine ⟨_, _, rfl, sq_f (o.same _ _ h1), rfl, _, _, rfl, _, _, rfl, rfl, ?_⟩
            refine q _ L2 o2 (by simp) (fun k hk => ?_) fun h => ?_
            · rw [List.getElem?_set_ne (fun e => hk (by simp [e])), List.getElem?_set_ne (fun e => hk (by simp [e]))]
            · rw [h3 (set_O (h j (by simp))), h2 (h i (by simp))]
end Dm

set_option Elab.async false
set_option linter.all false
set_option maxRecDepth 100000
set_option maxHeartbeats 2000000
namespace Dm
open PySem PySem.Spec PyProof.Rows L2
/-! ### the same data twice, also with dicts within: they are equal -/
section
variable {prog : Program} {w : World}
theorem tup_twin_eq (l b : Addr) (items items2 : Array Value) (n n2 : Nat) (dd dd2 : Option Addr) (sl sl2 : Array (Option Value)) (hsz : items.size = items2.size) :
    MeetsIn prog w (Builtin.«tuple.__eq__» ⟨[.ref l, .ref b], []⟩) (fun A R s => s.heap.get? l = some { cls := .type "tuple", dict := dd, data := .seq items n, slots := sl } ∧ s.heap.get? b = some { cls := .type "tuple", dict := dd2, data := .seq items2 n2, slots := sl2 } ∧
      (∀ p ∈ items.toList.zip items2.toList, SeqAt.EqP prog w A.in1 s p.1 p.2 true) ∧ R (.ok (.ret (.bool true))) s) :=
  .of_wp fun A R s h => by
    obtain ⟨hp, g, d, tk, os⟩ := s
    obtain ⟨hl, hb, he, h⟩ := h
    have f2 := AutoSeq1.sub_tuple_tuple
    wp_walk using AutoSeq1.wpAny_loadPart' hl, AutoSeq1.wpAny_loadPart' hb, wpAny_forIn_list _ (fun rest b s' => b.1 = none ∧ s' = ⟨hp, g, d, tk, os⟩ ∧ ∀ p ∈ rest, SeqAt.EqP prog w A.in1 ⟨hp, g, d, tk, os⟩ p.1 p.2 true) _
    case turn =>
      rintro ⟨y, x⟩ rest b s' ⟨hb', rfl, hz⟩
      refine wpAny_bind (hz (y, x) List.mem_cons_self _ _ ?_)
      wp_walk
      exact ⟨rfl, rfl, fun p hp => hz p (List.mem_cons_of_mem _ hp)⟩
    case fin =>
      rintro ⟨b1, b2⟩ s' ⟨hb', rfl, hz⟩
      simp only at hb'
      subst hb'
      wp_walk
      exact ⟨_, rfl, by simpa [Builtin.Tuple.tupleCompareSizes, hsz] using h⟩
    case h =>
      exact ⟨rfl, rfl, he⟩
theorem tup_twin_ne (l b : Addr) (items items2 : Array Value) (n n2 : Nat) (dd dd2 : Option Addr) (sl sl2 : Array (Option Value)) (hsz : items.size = items2.size) :
    MeetsIn prog w (Builtin.«tuple.__ne__» ⟨[.ref l, .ref b], []⟩) (fun A R s => s.heap.get? l = some { cls := .type "tuple", dict := dd, data := .seq items n, slots := sl } ∧ s.heap.get? b = some { cls := .type "tuple", dict := dd2, data := .seq items2 n2, slots := sl2 } ∧
      (∀ p ∈ items.toList.zip items2.toList, SeqAt.EqP prog w A.in1 s p.1 p.2 true) ∧ R (.ok (.ret (.bool false))) s) :=
  .of_wp fun A R s h => by
    obtain ⟨hp, g, d, tk, os⟩ := s
    obtain ⟨hl, hb, he, h⟩ := h
    have f2 := AutoSeq1.sub_tuple_tuple
    wp_walk using AutoSeq1.wpAny_loadPart' hl, AutoSeq1.wpAny_loadPart' hb, wpAny_forIn_list _ (fun rest b s' => b.1 = none ∧ s' = ⟨hp, g, d, tk, os⟩ ∧ ∀ p ∈ rest, SeqAt.EqP prog w A.in1 ⟨hp, g, d, tk, os⟩ p.1 p.2 true) _
    case turn =>
      rintro ⟨y, x⟩ rest b s' ⟨hb', rfl, hz⟩
      refine wpAny_bind (hz (y, x) List.mem_cons_self _ _ ?_)
      wp_walk
      exact ⟨rfl, rfl, fun p hp => hz p (List.mem_cons_of_mem _ hp)⟩
    case fin =>
      rintro ⟨b1, b2⟩ s' ⟨hb', rfl, hz⟩
      simp only at hb'
      subst hb'
      wp_walk
      exact ⟨_, rfl, by simpa [Builtin.Tuple.tupleCompareSizes, bne, hsz] using h⟩
    case h =>
      exact ⟨rfl, rfl, he⟩
section
variable {A : Around} {s : Shared} {l b : Addr} {items items2 : Array Value}
theorem rc_twin_eq (hl : s.heap.IsTuple l items) (hb : s.heap.IsTuple b items2) (hsz : items.size = items2.size) (hu : A.units < cLine) (he : ∀ p ∈ items.toList.zip items2.toList, SeqAt.EqP prog w A.in1 s p.1 p.2 true) (E Q : Value → Shared → Prop) (h : Q (.bool true) s) :
    wpAny (model prog w) A (richCompare .Eq (.ref l) (.ref b)) Q E s := by
  obtain ⟨⟨cls, dd, data, sl⟩, ho, hc, n, hd⟩ := id hl
  obtain ⟨⟨cls2, dd2, data2, sl2⟩, ho2, hc2, n2, hd2⟩ := id hb
  simp only at hc hd hc2 hd2
  subst hc hd hc2 hd2
  have ta : s.TypeIs (.ref l) "tuple" := ⟨_, ho, rfl⟩
  have tb : s.TypeIs (.ref b) "tuple" := ⟨_, ho2, rfl⟩
  exact wpAny_richCompare_same_room (op := .Eq) ta tb F.slot_tuple_eq (call_meetsIn F.slot_tuple_eq ta F.entry_tuple_eq (F.args_tuple_eq_2 _ _) (tup_twin_eq l b items items2 n n2 dd dd2 sl sl2 hsz)
    ⟨ho, ho2, he, show Value.bool true ≠ Value.notImplemented ∧ Q (.bool true) s from ⟨(fun x => nomatch x), h⟩⟩) hu
theorem rc_twin_ne (hl : s.heap.IsTuple l items) (hb : s.heap.IsTuple b items2) (hsz : items.size = items2.size) (hu : A.units < cLine) (he : ∀ p ∈ items.toList.zip items2.toList, SeqAt.EqP prog w A.in1 s p.1 p.2 true) (E Q : Value → Shared → Prop) (h : Q (.bool false) s) :
    wpAny (model prog w) A (richCompare .NotEq (.ref l) (.ref b)) Q E s := by
  obtain ⟨⟨cls, dd, data, sl⟩, ho, hc, n, hd⟩ := id hl
  obtain ⟨⟨cls2, dd2, data2, sl2⟩, ho2, hc2, n2, hd2⟩ := id hb
  simp only at hc hd hc2 hd2
  subst hc hd hc2 hd2
  have ta : s.TypeIs (.ref l) "tuple" := ⟨_, ho, rfl⟩
  have tb : s.TypeIs (.ref b) "tuple" := ⟨_, ho2, rfl⟩
  exact wpAny_richCompare_same_room (op := .NotEq) ta tb F.slot_tuple_ne (call_meetsIn F.slot_tuple_ne ta F.entry_tuple_ne (F.args_tuple_ne_2 _ _) (tup_twin_ne l b items items2 n n2 dd dd2 sl sl2 hsz)
    ⟨ho, ho2, he, show Value.bool false ≠ Value.notImplemented ∧ Q (.bool false) s from ⟨(fun x => nomatch x), h⟩⟩) hu
end
end
/-- twins: the same flat value, tuples of twins, dicts of one entry of ints -/
def Tw (K : PySem.W.Frag) (H : Hp) : Nat → V → V → Prop
  | 0, _, _ => False
  | n + 1, x, y => (x = y ∧ flatB x = true) ∨ (∃ a b xs ys, x = .ref a ∧ y = .ref b ∧ SqT K H a xs ∧ SqT K H b ys ∧ Paired (Tw K H n) xs ys) ∨
      ∃ a b i j, x = .ref a ∧ y = .ref b ∧ H a = some (.dK [(.inl i, .int j)]) ∧ H b = some (.dK [(.inl i, .int j)])
theorem zip_twin {P : Program} {w : World} {A : Around} {s : Shared} {F : V → V → Prop} (ih : ∀ x y v u, F x y → RelV x v → RelV y u → SeqAt.EqP P w A s v u true) : ∀ {xs ys : List V} {us ws : List Value}, Paired F xs ys → Vals xs us → Vals ys ws → us.length = ws.length ∧ ∀ p ∈ us.zip ws, SeqAt.EqP P w A s p.1 p.2 true
  | _, _, _, _, .nil, .nil, .nil => ⟨rfl, fun p hp => nomatch hp⟩
  | _, _, _, _, .cons h t, .cons r1 t1, .cons r2 t2 => by
    obtain ⟨e, k⟩ := zip_twin ih t t1 t2
    refine ⟨congrArg Nat.succ e, fun p hp => ?_⟩
    rw [List.zip_cons_cons] at hp
    rcases List.mem_cons.1 hp with q | q
    · subst q
      exact ih _ _ _ _ h r1 r2
    · exact k p q
section
variable {X : Cx} {pins : List (Addr × Obj)} {σ : L2.St} {H : Hp} {s : Shared}
theorem one_hit {P : Program} {w : World} {A : Around} {i j : Int} : ∀ {va vb : List (Key × Value)}, KV [(.inl i, .int j)] va → KV [(.inl i, .int j)] vb → PySem.W.KeqHitsP P w A s vb va true := fun {va vb} ra rb => by
  refine L2.hits_run (F := fun x y => x = .int j ∧ y = .int j) (fun x y v u h r1 r2 => ?_) rb ra fun p hp => ⟨.int j, ?_, ?_, rfl⟩
  · obtain ⟨rfl, rfl⟩ := h
    exact (eqAt_same r1 r2 rfl).eqP
  · rw [List.mem_singleton.1 hp]
    simp [valV]
  · rw [List.mem_singleton.1 hp]
theorem tw_run (I : Inv X pins σ H s) : ∀ (n : Nat) (A : Around), A.units + n < cLine → ∀ (x y : V) (v u : Value), Tw X.K H n x y → RelV x v → RelV y u → SeqAt.EqP X.prog X.w A s v u true
  | 0, _, _, _, _, _, _, h, _, _ => (show False from h).elim
  | n + 1, A, hu, x, y, v, u, h, rx, ry => by
    rcases h with ⟨rfl, f⟩ | ⟨a, b, xs, ys, rfl, rfl, ha, hb, hp⟩ | ⟨a, b, i, j, rfl, rfl, ha, hb⟩
    · exact (eqAt_same rx ry f).eqP
    · cases (show v = Value.ref a from rx)
      cases (show u = Value.ref b from ry)
      by_cases e : a = b
      · subst e
        exact (SeqAt.EqAt.same _).eqP
      · obtain ⟨us, r1, t1, _⟩ := I.tuple ha
        obtain ⟨ws, r2, t2, _⟩ := I.tuple hb
        obtain ⟨e1, k⟩ := zip_twin (fun x y v u h r1 r2 => tw_run I n A.in1 (by show A.units + 1 + n < cLine; omega) x y v u h r1 r2) hp r1 r2
        exact SeqAt.eqP_refs e (rc_twin_eq t1 t2 (by simpa using e1) (by omega) (by simpa using k))
    · cases (show v = Value.ref a from rx)
      cases (show u = Value.ref b from ry)
      by_cases e : a = b
      · subst e
        exact (SeqAt.EqAt.same _).eqP
      · obtain ⟨_, ya, va, ra, da⟩ := (show ObjOk X.prog X.w H s.heap a (.dK [(.inl i, .int j)]) from I.hok a _ ha)
        obtain ⟨_, yb, vb, rb, db⟩ := (show ObjOk X.prog X.w H s.heap b (.dK [(.inl i, .int j)]) from I.hok b _ hb)
        refine SeqAt.eqP_refs e fun E Q q => PySem.W.rcP_dicts (knd := mixKind X.prog X.w) (r := true) ya yb da db (by omega) (fun _ => one_hit ra rb) E Q ?_
        rw [show (va.length == vb.length && true) = true from by rw [← ra.length, ← rb.length]; simp]
        exact q
end
def rNeTw (K : PySem.W.Frag) : R2 := fun x y H Q => ((∃ a b xs ys, x = .ref a ∧ y = .ref b ∧ SqT K H a xs ∧ SqT K H b ys ∧ Paired (Tw K H 60) xs ys) ∨
  ∃ a b i j, x = .ref a ∧ y = .ref b ∧ H a = some (.dK [(.inl i, .int j)]) ∧ H b = some (.dK [(.inl i, .int j)])) ∧ Q (.bl false) H
theorem op_neTw {X : Cx} (hu : X.A.units + 64 < cLine) : OpR X (compareOp .NotEq) (rNeTw X.K) := by
  intro pins s σ H x y v u Q I rx ry h
  obtain ⟨⟨a, b, xs, ys, rfl, rfl, ha, hb, hp⟩ | ⟨a, b, i, j, rfl, rfl, ha, hb⟩, q⟩ := h
  · cases (show v = Value.ref a from rx)
    cases (show u = Value.ref b from ry)
    obtain ⟨us, r1, t1, _⟩ := I.tuple ha
    obtain ⟨ws, r2, t2, _⟩ := I.tuple hb
    obtain ⟨e1, k⟩ := zip_twin (fun x y v u h r1 r2 => tw_run I 60 X.A.in1 (by show X.A.units + 1 + 60 < cLine; omega) x y v u h r1 r2) hp r1 r2
    exact rc_twin_ne t1 t2 (by simpa using e1) (by omega) (by simpa using k) _ _ ⟨.bl false, H, I, rfl, q⟩
  · exact op_ne_dictA (by omega) pins s σ H (.ref a) (.ref b) v u Q I rx ry ⟨a, b, _, _, rfl, rfl, ha, hb, rfl, fun p hp => by rw [List.mem_singleton.1 hp]; exact ⟨by simp [valV], rfl⟩, q⟩
mutual
/-- data that are twins of themselves -/
def twD : D → Bool
  | .non => true
  | .bl _ => true
  | .int _ => true
  | .str _ => true
  | .tup xs => twsD xs
  | .dct [(.inl _, .int _)] => true
  | _ => false
def twsD : List D → Bool
  | [] => true
  | x :: xs => twD x && twsD xs
end
theorem twsD_mem : ∀ {ds : List D}, twsD ds = true ↔ ∀ d ∈ ds, twD d = true
  | [] => by simp [twsD]
  | d :: ds => by
    rw [twsD, Bool.and_eq_true, twsD_mem]
    simp
theorem tw_dct {kvs : List (Key × V)} (h : twD (.dct kvs) = true) : ∃ i j, kvs = [(.inl i, .int j)] := by
  unfold twD at h
  split at h <;> first | (cases h; done) | skip
  all_goals first | exact ⟨_, _, by assumption⟩ | (rename_i e; cases e; exact ⟨_, _, rfl⟩) | (simp_all; done)
mutual
theorem rp_tw {Z : Wo} {K : PySem.W.Frag} {G H : Hp} (sm : Same G H) : ∀ {d : D} {n : Nat} {x y : V}, twD d = true → depD d < n → Rp Z G x d → Rp Z G y d → Tw K H n x y
  | .non, n + 1, _, _, _, _, .non, .non => .inl ⟨rfl, rfl⟩
  | .bl _, n + 1, _, _, _, _, .bl _, .bl _ => .inl ⟨rfl, rfl⟩
  | .int _, n + 1, _, _, _, _, .int _, .int _ => .inl ⟨rfl, rfl⟩
  | .str _, n + 1, _, _, _, _, .str _, .str _ => .inl ⟨rfl, rfl⟩
  | .tup ds, n + 1, _, _, h, hn, .tup h1 r1, .tup h2 r2 => .inr (.inl ⟨_, _, _, _, rfl, rfl, sq_t (sm _ _ h1), sq_t (sm _ _ h2), rps_tw sm h (by rw [depD] at hn; omega) r1 r2⟩)
  | .dct kvs, n + 1, _, _, h, _, .dct h1, .dct h2 => by
    obtain ⟨i, j, rfl⟩ := tw_dct h
    exact .inr (.inr ⟨_, _, i, j, rfl, rfl, sm _ _ h1, sm _ _ h2⟩)
  | .lst _, _, _, _, h, _, _, _ => by cases h
  | .obj _ _, _, _, _, h, _, _, _ => by cases h
theorem rps_tw {Z : Wo} {K : PySem.W.Frag} {G H : Hp} (sm : Same G H) : ∀ {ds : List D} {n : Nat} {xs ys : List V}, twsD ds = true → depsD ds < n → RpAll Z G xs ds → RpAll Z G ys ds → Paired (Tw K H n) xs ys
  | [], _, _, _, _, _, .nil, .nil => .nil
  | d :: ds, n, _, _, h, hn, .cons a r1, .cons b r2 => by
    rw [twsD, Bool.and_eq_true] at h
    rw [depsD] at hn
    exact .cons (rp_tw sm h.1 (by omega) a b) (rps_tw sm h.2 (by omega) r1 r2)
end
open Classical in
/-- != of data, also of twins with dicts within -/
noncomputable def oNeY (d e : D) : Option D := match oNe d e with
  | some z => some z
  | none => if d = e ∧ twD d = true ∧ depD d ≤ 60 then some (.bl false) else none
theorem oNeY_of {d e z : D} (h : oNe d e = some z) : oNeY d e = some z := by
  unfold oNeY
  rw [h]
theorem eqD_refl {d : D} {b : Bool} (h : eqD d d = some b) : b = true := by
  rcases eqD_or h with ⟨x, y, e1, e2, rfl⟩ | h
  · rw [e1] at e2
    cases e2
    exact decide_eq_true rfl
  · unfold eqD0 at h
    cases e : toPy d with
    | none => rw [e] at h; cases h
    | some a =>
      rw [e] at h
      dsimp only at h
      split at h
      · rename_i c
        rw [Bool.and_eq_true] at c
        cases h
        exact PySem.SeqAt.eqv_refl a (SeqAt.canLay_of_shaped c.1)
      · cases h
theorem oNeY_self {d : D} (h : twD d = true) (hd : depD d ≤ 60) : oNeY d d = some (.bl false) := by
  have h2 : ∀ z, oNe d d = some z → z = .bl false := fun z hz => by
    unfold oNe at hz
    cases e : eqD d d with
    | none => rw [e] at hz; cases hz
    | some b =>
      rw [e] at hz
      cases hz
      rw [eqD_refl e]
      rfl
  unfold oNeY
  cases e : oNe d d with
  | some z =>
    dsimp only
    rw [h2 z e]
  | none =>
    dsimp only
    rw [if_pos ⟨rfl, h, hd⟩]
def rNeY (K : PySem.W.Frag) : R2 := fun x y H Q => rNeX K x y H Q ∨ rNeTw K x y H Q
theorem op_neYK {X : Cx} {K : PySem.W.Frag} (h : X.K = K) (hu : X.A.units + 64 < cLine) : OpR X (compareOp .NotEq) (rNeY K) := OpR.either (op_neK h hu) (h ▸ op_neTw hu)
theorem o2_neY {S : Type} {J : Jc S} {ρ : Dm.Env} {K : PySem.W.Frag} : Op2 J ρ (rNeY K) oNeY := fun σ G s H L x y d e z o rx ry hz Q q => by
  unfold oNeY at hz
  cases h : oNe d e with
  | some z' =>
    rw [h] at hz
    cases hz
    exact .inl (o2_ne σ G s H L x y d e z o rx ry h Q q)
  | none =>
    rw [h] at hz
    dsimp only at hz
    split at hz
    · rename_i c
      obtain ⟨rfl, t, hd⟩ := c
      cases hz
      have big : ∀ {x y : V}, Rp J.Z G x d → Rp J.Z G y d → rNeY K x y H Q := fun {x y} r1 r2 => by
        cases d with
        | tup ds =>
          cases r1 with
          | tup h1 s1 =>
            cases r2 with
            | tup h2 s2 =>
              rw [depD] at hd
              exact .inr ⟨.inl ⟨_, _, _, _, rfl, rfl, sq_t (o.same _ _ h1), sq_t (o.same _ _ h2), rps_tw o.same t (by omega) s1 s2⟩, q _ G H (Same.refl _) o (.bl _)⟩
        | dct kvs =>
          obtain ⟨i, j, rfl⟩ := tw_dct t
          cases r1 with
          | dct h1 =>
            cases r2 with
            | dct h2 => exact .inr ⟨.inr ⟨_, _, i, j, rfl, rfl, o.same _ _ h1, o.same _ _ h2⟩, q _ G H (Same.refl _) o (.bl _)⟩
        | lst _ => cases t
        | lnt _ => cases t
        | obj _ _ => cases t
        | non => cases h
        | bl _ => cases h
        | int _ => cases h
        | str _ => simp [oNe, eqD] at h
      have flat : ∀ {v : V}, rX J ρ σ G v d → Rp J.Z G v d := fun {v} r => by
        rcases r with r | ⟨_, ds, _, _, e⟩
        · exact r
        · subst e
          cases t
      exact big (flat rx) (flat ry)
    · cases hz
end Dm

set_option Elab.async false
set_option linter.all false
set_option maxRecDepth 100000
set_option maxHeartbeats 2000000
namespace Dm
open PySem PySem.Spec PyProof.Rows L2
section
variable {S : Type} {J : Jc S} {α β γ δ τ : Type} {ρ esc : Env} {σ : Sl} {G G' H : Hp} {L : Led} {T : Ends → Prop} {E : Ends}
/-- an if that never goes on, in a block that never goes on -/
theorem sv_ifX {tt : TT} {tu tw tz : TS} {mt : MS S Bool} {m1 m2 : MS S (Fx γ)} {eb : γ → Env} (h : EvT J tt ρ mt) (w : Wk ρ esc) (h1 : Sv J Ta esc tu ρ m1 (Fx.fin eb)) (h2 : Sv J T esc (tSeq tw tz) ρ m2 (Fx.fin eb)) :
    Sv J T esc (tSeq (tIfS tt tu tw) tz) ρ (bnd mt fun b => if b = true then m1 else m2) (Fx.fin eb) := fun σ G s H L o E ht q =>
  h.runS o w q fun b c G1 s1 H1 e1 o1 hc q1 => by
    cases hc
    cases b with
    | true =>
      refine h1 σ G1 s1 H1 L o1 { E with nx := tz E } trivial (Pss.bind (k := ret) (m := m1) (by rw [bnd_id]; exact q1) fun a s' q2 => ?_)
      cases a <;> exact q2
    | false => exact h2 σ G1 s1 H1 L o1 E ht q1
end
/-! ### list(range(n)), tuple(range(n)) -/
def rgL : D → Option (List D)
  | .int j => if j.natAbs < 1000000 then some (rgD 0 j.toNat) else none
  | _ => none
theorem rgV_rp {Z : Wo} {G : Hp} (j : Int) : RpAll Z G (rgV 0 j) (rgD 0 j.toNat) := by
  unfold rgV rgD
  rw [Int.sub_zero]
  induction List.range j.toNat with
  | nil => exact .nil
  | cons i l ih => exact .cons (.int _) ih
section
variable {S : Type} {J : Jc S} {ρ : Dm.Env}
theorem rg_ok {j : Int} (h : j.natAbs < 1000000) : RgOk 0 j := ⟨by omega, by omega, by omega, by omega, by omega⟩
theorem rgL_some {d : D} {ds : List D} (h : rgL d = some ds) : ∃ j : Int, d = .int j ∧ j.natAbs < 1000000 ∧ ds = rgD 0 j.toNat := by
  unfold rgL at h
  split at h
  · rename_i j
    by_cases c : j.natAbs < 1000000
    · rw [if_pos c] at h
      cases h
      exact ⟨j, rfl, c, rfl⟩
    · rw [if_neg c] at h
      cases h
  · cases h
theorem el_listRg {te : TE} {m : MS S D} (h : Ev J te ρ m) : EvL J (tLstRg (tRg1 te)) ρ (bnd m fun d => lft (rgL d)) := fun σ G s H L o Q q =>
  h.runL o q fun d x G1 s1 H1 e1 o1 rx q1 => PstL.lft q1 fun ds e q2 => by
    obtain ⟨j, rfl, hj, rfl⟩ := rgL_some e
    refine ⟨j, rX.int (J := J) (ρ := ρ) (σ := σ) (.inl rx), rg_ok hj, fun l hl => q2 _ _ _ _ (Same.refl _) (o1.nw hl) (rgV_rp j)⟩
theorem ev_tupRg {te : TE} {m : MS S D} (h : Ev J te ρ m) : Ev J (tTupRg (tRg1 te)) ρ (bnd m fun d => lft ((rgL d).map D.tup)) := fun σ G s H L o Q q =>
  h.run o q fun d x G1 s1 H1 e1 o1 rx q1 => Pst.lft q1 fun d2 e q2 => by
    cases e2 : rgL d with
    | none => rw [e2] at e; cases e
    | some ds =>
      rw [e2] at e
      cases e
      obtain ⟨j, rfl, hj, rfl⟩ := rgL_some e2
      refine ⟨j, rX.int (J := J) (ρ := ρ) (σ := σ) (.inl rx), rg_ok hj, fun p hp => ?_⟩
      obtain ⟨sm, o'⟩ := o1.lay (u := .tup (rgV 0 j)) hp
      exact q2 _ _ _ sm o' (.tup upd_same (rgV_rp j))
end
end Dm

set_option Elab.async false
set_option linter.all false
set_option maxRecDepth 100000
set_option maxHeartbeats 2000000
namespace Dm
open PySem PySem.Spec PyProof.Rows L2
/-! ### comprehensions of two walks -/
section
variable {S : Type} {J : Jc S} {α β γ δ τ υ : Type} {ρ esc : Env} {σ : Sl} {G G' H : Hp} {L : Led} {T : Ends → Prop} {E : Ends}
/-- the inner walk, put behind acc -/
def lcA (un : D → Option υ) (c : υ → MS S Bool) (f : υ → MS S D) : List D → List D → MS S (List D)
  | acc, [] => ret acc
  | acc, d :: ds => bnd (lft (un d)) fun t => bnd (nex (c t)) fun b => if b = true then bnd (nex (f t)) fun y => bnd (lft (app1 acc y)) fun acc => lcA un c f acc ds else lcA un c f acc ds
def lc2A (un : D → Option τ) (c : τ → MS S Bool) (n : τ → MS S (List D)) (uv : D → Option υ) (c2 : τ → υ → MS S Bool) (f : τ → υ → MS S D) : List D → List D → MS S (List D)
  | acc, [] => ret acc
  | acc, d :: ds => bnd (lft (un d)) fun t => bnd (nex (c t)) fun b => if b = true then bnd (nex (n t)) fun es => bnd (lcA uv (c2 t) (f t) acc es) fun acc => lc2A un c n uv c2 f acc ds else lc2A un c n uv c2 f acc ds
theorem EvI.runC {ρ' : Env} {σ' : Sl} {L' : Led} {p : Addr} {xs : List V} {wi : TI} {Q : VK} {m : MS S (List D)} {k : List D → MS S (List D)} {s : S} (h1 : EvI (J.add p xs) wi ρ' m)
    (o : Ok J.Z ((p, .lst xs) :: J.lay s) ρ' G σ' L' H) (h : PstL J ρ σ L G Q (bnd (nex m) k s)) {R : It → Hp → Prop}
    (kk : ∀ ds I G' s' H', Same G G' → Ok J.Z ((p, .lst xs) :: J.lay s') ρ' G' σ' L' H' → Walk I ds.length (fun H => Same G' H) (YD J.Z G' ds) → PstL J ρ σ L G' Q (k ds s') → R I H') : wi σ' H R := by
  refine h1 σ' G s H L' o _ ?_
  have h' : PstL J ρ σ L G Q ((nex m s).go k) := h
  unfold nex at h'
  cases e : m s with
  | stuck =>
    rw [e] at h'
    exact h'
  | ex c fs s' =>
    rw [e] at h'
    exact h'.elim
  | ok a s' =>
    rw [e] at h'
    exact fun I G' H' sm o' wk => kk a I G' s' H' sm o' wk (PstL.mono sm h')
theorem el_lc2 {wi wi1 : TI} {g g1 : TG} {tt tt1 : TT} {te : TE} {un : D → Option τ} {uv : D → Option υ} {ex : τ → Env → Env} {ex1 : υ → Env → Env} {js js1 vs vs1 : List Nat} {m : MS S (List D)} {c : τ → MS S Bool} {n : τ → MS S (List D)} {c2 : τ → υ → MS S Bool} {f : τ → υ → MS S D}
    (h : EvI J wi ρ m) (hg : ∀ p xs, Tg (J.add p xs) g un ex js) (ht : ∀ t p xs, EvT (J.add p xs) tt (ex t (wipeE ρ vs)) (c t)) (h1 : ∀ t p xs, EvI (J.add p xs) wi1 (ex t (wipeE ρ vs)) (n t)) (hg1 : ∀ p xs, Tg (J.add p xs) g1 uv ex1 js1)
    (ht1 : ∀ t u p xs, EvT (J.add p xs) tt1 (ex1 u (wipeE (ex t (wipeE ρ vs)) vs1)) (c2 t u)) (he : ∀ t u p xs, Ev (J.add p xs) te (ex1 u (wipeE (ex t (wipeE ρ vs)) vs1)) (f t u))
    (hj : ∀ j ∈ js, j ∈ vs := by decide) (hj1 : ∀ j ∈ js1, j ∈ vs1 := by decide) (hO : ∀ v ∈ vs, noO ρ[v]? = true := by decide) (hO1 : ∀ t, ∀ v ∈ vs1, noO (ex t (wipeE ρ vs))[v]? = true) :
    EvL J (tLc2 wi g tt wi1 g1 tt1 te vs vs1) ρ (bnd m fun ds => bnd (lft (mkL ds)) fun ds => lc2A un c n uv c2 f [] ds) := fun σ G s H L o Q q =>
  h.runL o q fun ds0 I G1 s1 H1 e1 o1 wk q1 Dp hD => by
    cases hds : mkL ds0 with
    | none =>
      rw [hds] at q1
      exact q1.elim
    | some ds =>
    rw [hds] at q1
    obtain ⟨rfl, hlen⟩ := mkL_some hds
    have q1 : PstL J ρ σ L G1 Q (lc2A un c n uv c2 f [] ds s1) := q1
    let Po : Nat → Hp → Prop := fun i H => ∃ acc xs G2 s2, Same G1 G2 ∧ Cells J.Z G2 ρ σ L ∧ Wd G2 ((Dp, .lst xs) :: (L ++ J.lay s2)) H ∧ RpAll J.Z G2 xs acc ∧ PstL J ρ σ L G2 Q (lc2A un c n uv c2 f acc (ds.drop i) s2)
    refine ⟨fun i m H => m = ds.length - i ∧ i ≤ ds.length ∧ Po i H, ⟨ds.length, by simp, Nat.zero_le _, [], [], G1, s1, Same.refl _, o1.1, o1.2.keep hD, .nil, q1⟩, ?_⟩
    rintro i m H ⟨rfl, hi, acc, xs, G2, s2, sm2, cl2, w2, r2, q2⟩
    by_cases hlt : i < ds.length
    · refine .inr ⟨wk.goes i H hlt (sm2.trans w2.same), Po (i + 1), fun H' p' => ⟨ds.length - (i + 1), by omega, rfl, hlt, p'⟩, fun x H' y => ?_⟩
      have y := wk.yields i H x H' hlt (sm2.trans w2.same) y
      have o2 : Ok J.Z ((Dp, .lst xs) :: J.lay s2) ρ G2 σ L H := ⟨cl2, w2.perm List.perm_middle⟩
      obtain ⟨d, G3, hd, sm3, o3, r⟩ := y.ok sm2 o2
      have ed : ds.drop i = d :: ds.drop (i + 1) := by
        rw [List.drop_eq_getElem_cons hlt]
        rw [List.getElem?_eq_getElem hlt] at hd
        cases hd
        rfl
      rw [ed] at q2
      cases hu : un d with
      | none =>
        unfold lc2A at q2
        rw [hu] at q2
        exact q2.elim
      | some t =>
        unfold lc2A at q2
        rw [hu] at q2
        have q3 : PstL J ρ σ L G2 Q (bnd (nex (c t)) (fun b => if b = true then bnd (nex (n t)) fun es => bnd (lcA uv (c2 t) (f t) acc es) fun acc => lc2A un c n uv c2 f acc (ds.drop (i + 1)) else lc2A un c n uv c2 f acc (ds.drop (i + 1))) s2) := q2
        have ow : Ok (J.add Dp xs).Z ((J.add Dp xs).lay s2) (wipeE ρ vs) G3 (L2.wipe σ vs) L H' := ⟨o3.1.wipe hO, o3.2⟩
        refine (hg Dp xs).go d t _ x _ G3 s2 H' L hu ow r _ fun σ4 L4 o4 hlen4 hsame hL4 => ?_
        have eL : L4 = L := hL4 fun j hjj => wipeE_O (hO j (hj j hjj)) vs
        subst eL
        refine ⟨wipe_back hj hlen4 hsame, ?_⟩
        refine (ht t Dp xs).runC (ρ := ρ) (σ := σ) (L := L4) o4 (PstL.mono sm3 q3) fun b b' G5 s5 H5 sm5 o5 hb q5 => ?_
        cases hb
        have sm35 := sm3.trans sm5
        cases b with
        | false => exact ⟨acc, xs, G5, s5, sm2.trans sm35, cl2.mono sm35, o5.2.perm List.perm_middle.symm, r2.mono sm35, q5⟩
        | true =>
          rw [if_pos rfl] at q5
          refine (h1 t Dp xs).runC (ρ := ρ) (σ := σ) (L := L4) o5 q5 fun es I1 G6 s6 H6 sm6 o6 wk1 q6 => ?_
          have sm36 := sm35.trans sm6
          let Pi : Nat → Hp → Prop := fun j H => ∃ acc xs G7 s7, Same G6 G7 ∧ Cells J.Z G7 (ex t (wipeE ρ vs)) σ4 L4 ∧ Cells J.Z G7 ρ σ L4 ∧ Wd G7 ((Dp, .lst xs) :: (L4 ++ J.lay s7)) H ∧ RpAll J.Z G7 xs acc ∧
            PstL J ρ σ L4 G7 Q (bnd (lcA uv (c2 t) (f t) acc (es.drop j)) (fun acc => lc2A un c n uv c2 f acc (ds.drop (i + 1))) s7)
          refine ⟨fun j k H => k = es.length - j ∧ j ≤ es.length ∧ Pi j H, ⟨es.length, by simp, Nat.zero_le _, acc, xs, G6, s6, Same.refl _, o6.1, cl2.mono sm36, o6.2.perm List.perm_middle.symm, r2.mono sm36, q6⟩, ?_⟩
          rintro j k H ⟨rfl, hjl, acc7, xs7, G7, s7, sm7, cb7, cl7, w7, r7, q7⟩
          by_cases hlt1 : j < es.length
          · refine .inr ⟨wk1.goes j H hlt1 (sm7.trans w7.same), Pi (j + 1), fun H' p' => ⟨es.length - (j + 1), by omega, rfl, hlt1, p'⟩, fun x H' y => ?_⟩
            have y := wk1.yields j H x H' hlt1 (sm7.trans w7.same) y
            have o7 : Ok J.Z ((Dp, .lst xs7) :: J.lay s7) (ex t (wipeE ρ vs)) G7 σ4 L4 H := ⟨cb7, w7.perm List.perm_middle⟩
            obtain ⟨d1, G8, hd1, sm8, o8, r8⟩ := y.ok sm7 o7
            have ed1 : es.drop j = d1 :: es.drop (j + 1) := by
              rw [List.drop_eq_getElem_cons hlt1]
              rw [List.getElem?_eq_getElem hlt1] at hd1
              cases hd1
              rfl
            rw [ed1] at q7
            cases hu1 : uv d1 with
            | none =>
              unfold lcA at q7
              rw [hu1] at q7
              exact q7.elim
            | some u =>
              unfold lcA at q7
              rw [hu1] at q7
              have q8 : PstL J ρ σ L4 G7 Q (bnd (bnd (nex (c2 t u)) fun b => if b = true then bnd (nex (f t u)) fun y => bnd (lft (app1 acc7 y)) fun acc => lcA uv (c2 t) (f t) acc (es.drop (j + 1)) else lcA uv (c2 t) (f t) acc7 (es.drop (j + 1))) (fun acc => lc2A un c n uv c2 f acc (ds.drop (i + 1))) s7) := q7
              rw [bnd_bnd] at q8
              have ow1 : Ok (J.add Dp xs7).Z ((J.add Dp xs7).lay s7) (wipeE (ex t (wipeE ρ vs)) vs1) G8 (L2.wipe σ4 vs1) L4 H' := ⟨o8.1.wipe (hO1 t), o8.2⟩
              refine (hg1 Dp xs7).go d1 u _ x _ G8 s7 H' L4 hu1 ow1 r8 _ fun σ9 L9 o9 hlen9 hsame9 hL9 => ?_
              have eL9 : L9 = L4 := hL9 fun j hjj => wipeE_O (hO1 t j (hj1 j hjj)) vs1
              subst eL9
              refine ⟨wipe_back hj1 hlen9 hsame9, ?_⟩
              refine (ht1 t u Dp xs7).runC (ρ := ρ) (σ := σ) (L := L9) o9 (PstL.mono sm8 q8) fun b b' G10 s10 H10 sm10 o10 hb q10 => ?_
              cases hb
              have sm810 := sm8.trans sm10
              cases b with
              | false => exact ⟨acc7, xs7, G10, s10, sm7.trans sm810, cb7.mono sm810, cl7.mono sm810, o10.2.perm List.perm_middle.symm, r7.mono sm810, q10⟩
              | true =>
                rw [if_pos rfl, bnd_bnd] at q10
                refine (he t u Dp xs7).runC (ρ := ρ) (σ := σ) (L := L9) o10 q10 fun y vv G11 s11 H11 sm11 o11 ry q11 => ?_
                have sm811 := sm810.trans sm11
                cases ha : app1 acc7 y with
                | none =>
                  rw [ha] at q11
                  exact q11.elim
                | some acc' =>
                  rw [ha] at q11
                  obtain ⟨hl, rfl⟩ := ite_some ha
                  have w11 : Wd G11 ((Dp, .lst xs7) :: (L9 ++ J.lay s11)) H11 := o11.2.perm List.perm_middle.symm
                  exact ⟨xs7, (w11.own (Dp, .lst xs7) List.mem_cons_self).1, long_lt (by rw [r7.length]; exact hl), acc7 ++ [y], xs7 ++ [vv], G11, s11, sm7.trans sm811, cb7.mono sm811, cl7.mono sm811, w11.put (L1 := []), (r7.mono sm811).append (.one ry), q11⟩
          · have ej : j = es.length := by omega
            subst ej
            rw [List.drop_length] at q7
            exact .inl ⟨wk1.stops H (sm7.trans w7.same), acc7, xs7, G7, s7, (sm2.trans sm36).trans sm7, cl7, w7, r7, q7⟩
    · have ei : i = ds.length := by omega
      subst ei
      rw [List.drop_length] at q2
      have q3 : PstL J ρ σ L G2 Q (.ok acc s2) := q2
      exact .inl ⟨wk.stops H (sm2.trans w2.same), q3 Dp xs G2 H (Same.refl _) ⟨cl2, w2⟩ r2⟩
end
end Dm

set_option Elab.async false
set_option linter.all false
set_option maxRecDepth 100000
set_option maxHeartbeats 2000000
namespace Dm
open PySem PySem.Spec PyProof.Rows L2
section
variable {S : Type} {J : Jc S} {α β γ δ τ : Type} {ρ esc : Env} {σ : Sl} {G G' H : Hp} {L : Led} {T : Ends → Prop} {E : Ends}
def appQ (dss : List (List D)) (j : Nat) (d : D) : Option (List (List D)) := (app1 (inQ dss j) d).map fun es => dss.set j es
/-- xs[a].append(e) -/
theorem sv_appQ {K : PySem.W.Frag} {i : Nat} {dss : List (List D)} {te ta : TE} {m n1 : MS S D} (hi : ρ[i]? = some (.Q dss)) (hk : Ev J ta ρ n1) (h : Ev J te ρ m) (w : Wk ρ esc) :
    Sv J Ta esc (tDrop (tBM K "list" rAppend (tOp (rIx K) (tVar i) ta) (tCons te tNil))) ρ (bnd n1 fun a => bnd (lft (atQ dss a)) fun j => bnd m fun d => lft (appQ dss j d)) (fun es => .nx (ρ.set i (.Q es))) := fun σ G s H L o E _ q => by
  obtain ⟨p, xs, Li, L1, L2, a1, a2, a3, a4, a5, _⟩ := o.ownQ hi
  refine ⟨.ref p, a1, hk.runS o w q fun k u G2 s2 H2 e2 o2 rk q2 => ?_⟩
  cases k with
  | int z =>
    cases e : ixN dss.length z with
    | none =>
      rw [show atQ dss (.int z) = ixN dss.length z from rfl, e] at q2
      exact q2.elim
    | some j =>
      rw [show atQ dss (.int z) = ixN dss.length z from rfl, e] at q2
      have q2 : Pss J esc G2 E (fun es => .nx (ρ.set i (.Q es))) ((bnd m fun d => lft (appQ dss j d)) s2) := q2
      obtain ⟨p2, xs2, Li2, L12, L22, b1, b2, b3, b4, b5, _⟩ := o2.ownQ hi
      rw [a1] at b1
      cases b1
      obtain ⟨b, ys, M1, M2, c1, c2, c3, _⟩ := b4.get (atQ_lt e)
      have hb2 : H2 b = some (.lst ys) := b5 b ys (by rw [c2]; simp)
      refine .inl ⟨p, xs2, z, .ref b, rfl, rX.int (J := J) (ρ := ρ) (σ := σ) (.inl rk), sq_l b3, by unfold atI; rw [b4.length, e]; exact c1, .inl ⟨rfl, ys, sq_l hb2⟩, ?_⟩
      refine h.runS o2 w q2 fun d v G3 s3 H3 e3 o3 r q3 => Pss.lft q3 fun es he q4 => ?_
      obtain ⟨p3, xs3, Li3, L13, L23, d1, d2, d3, d4, d5, d6⟩ := o3.ownQ hi
      rw [a1] at d1
      cases d1
      have ex : xs3 = xs2 := by
        have := o3.sameQ b2
        rw [d3] at this
        cases this
        rfl
      obtain ⟨b', zs, N1, N2, f1, f2, f3, f4⟩ := d4.get (atQ_lt e)
      have eb : b' = b := by
        rw [ex, c1] at f1
        cases f1
        rfl
      subst eb
      have hb : H3 b' = some (.lst zs) := d5 b' zs (by rw [f2]; simp)
      unfold appQ at he
      cases ha : app1 (inQ dss j) d with
      | none => rw [ha] at he; cases he
      | some es2 =>
        rw [ha] at he
        cases he
        obtain ⟨hl, rfl⟩ := ite_some ha
        refine ⟨b', zs, v, rfl, rfl, hb, long_lt (by rw [f3.length]; exact hl), ?_⟩
        refine q4 σ G3 _ _ (Same.refl _) ⟨d6 G3 _ _ _ (Same.refl _) (f4 G3 _ _ (Same.refl _) (f3.append (.one r))), ?_⟩
        have w3 := o3.2
        rw [d2, f2] at w3
        have e5 : ∀ x : HO, (L13 ++ (p, HO.lst xs3) :: (N1 ++ (b', x) :: N2 ++ L23)) ++ J.lay s3 = (L13 ++ (p, HO.lst xs3) :: N1) ++ (b', x) :: (N2 ++ L23 ++ J.lay s3) := fun x => by simp
        rw [e5] at w3
        rw [e5]
        exact w3.put
  | _ => exact q2.elim
end
end Dm

set_option Elab.async false
set_option linter.all false
set_option maxRecDepth 100000
set_option maxHeartbeats 4000000
namespace Dm
open PySem PySem.Spec PyProof.Rows L2
/-! ### set comprehensions: what is put in is told by a kit -/
/-- how a set is told: its state, the empty one, what adding does -/
structure Stk (P : Program) (w : World) (A : Around) (K : PySem.W.Frag) (τ κ : Type) where
  so : Addr → τ → HO
  z : τ
  pre : V → Hp → τ → κ → Prop
  post : τ → κ → τ → Prop
  new : ∀ {H : Hp} {h : Heap}, ObjOk P w H (h.push (bareSet w)) h.objs.size (so h.objs.size z)
  add : ∀ {X : Cx} {pins : List (Addr × Obj)} {σ : L2.St} {H : Hp} {s : Shared} {E : Value → Shared → Prop} {D : Addr} {t : τ} {k : κ} {y : V} {u : Value} {Q : Value → Shared → Prop}, X.prog = P → X.w = w → X.A = A → X.K = K → Inv X pins σ H s → H D = some (so D t) → RelV y u → pre y H t k →
    (∀ t' s', post t k t' → Inv X pins σ (upd H D (so D t')) s' → Q .none s') → wpAny (model P w) A (call (.builtin "set.add") [.ref D, u]) Q E s
section
variable {X : Cx} {τ κ : Type}
def tSet (k : (Addr → τ → HO) × τ × (V → Hp → τ → κ → Prop) × (τ → κ → τ → Prop)) (wi : TI) (g : TG) (tt : TT) (te : TE) (vs : List Nat) : TE := fun σ H Q => wi σ H fun J H1 => ∀ D, H1 D = none → ∃ W : Nat → Nat → Hp → Prop, (∃ m, W 0 m (upd H1 D (k.1 D k.2.1))) ∧ ∀ i m H, W i m H →
  (J.stop i H ∧ Q (.ref D) H) ∨ (J.go i H ∧ ∃ Nx : Hp → Prop, (∀ H', Nx H' → ∃ m', m' < m ∧ W (i + 1) m' H') ∧ ∀ x H', J.yld i H x H' → g x (L2.wipe σ vs) H' fun σ2 H2 => L2.wipe σ2 vs = L2.wipe σ vs ∧ tt σ2 H2 fun b H3 =>
    if b = true then te σ2 H3 fun y H4 => ∃ t u, H4 D = some (k.1 D t) ∧ k.2.2.1 y H4 t u ∧ ∀ t', k.2.2.2 t u t' → Nx (upd H4 D (k.1 D t')) else Nx H3)
abbrev Stk.kt {P : Program} {w : World} {A : Around} {K : PySem.W.Frag} (k : Stk P w A K τ κ) : (Addr → τ → HO) × τ × (V → Hp → τ → κ → Prop) × (τ → κ → τ → Prop) := (k.so, k.z, k.pre, k.post)
theorem set_run {pins : List (Addr × Obj)} {s : Shared} {σ : L2.St} {H : Hp} {Q : VK} {elt tg iter : Expr} {ifs : List Expr} {scope : Scope} {own : List (PySem.Str × Nat)} {pos pos' : Pos} {wi : TI} {g : TG} {tt : TT} {te : TE} {use : Option (Value → Sem Unit)} {Qf : Value → Shared → Prop}
    (k : Stk X.prog X.w X.A X.K τ κ) (hc : X.calm = true) (hN : X.N.Nodup) (I : Inv X pins σ H s) (hi : PI X tg iter wi) (ok : BlkOk X.N X.env.scope scope own)
    (hg : ∀ (s : Shared) (H : Hp) (C : Addr) (cl : List (PySem.Str × Addr)) (fp : List Addr), PG (X.blk s H scope (compEnvC scope cl C X.env) fp) tg g) (ht : ∀ (s : Shared) (H : Hp) (C : Addr) (cl : List (PySem.Str × Addr)) (fp : List Addr), PTs (X.blk s H scope (compEnvC scope cl C X.env) fp) ifs tt)
    (he : ∀ (s : Shared) (H : Hp) (C : Addr) (cl : List (PySem.Str × Addr)) (fp : List Addr), PE (X.blk s H scope (compEnvC scope cl C X.env) fp) elt te) (hs : ∀ x, foldedSetIterable iter X.env x = pure x)
    (h : tSet k.kt wi g tt te (own.map (·.2)) σ H Q)
    (hRR : ∀ D C s' m H', Inv X pins σ H' s' → Q (.ref D) H' → s'.heap.Ns C m → FpOk X pins H' C → compPost (model X.prog X.w) X.A X.xe use Qf (.ref D) C (.ok .next) s') :
    wpAny (model X.prog X.w) X.A (comprehension (.SetComp elt [⟨tg, iter, ifs, 0⟩] scope pos) scope X.env pos' (newSet (.type "set")) false (eval iter X.env) use) Qf X.xe s := by
  have fr : ∀ y ∈ scope.names, y.2 = .free → ∃ c, X.env.cells.lookup y.1 = some c := fun y hy e => (ok.free y hy e).elim (fun q => I.ok.has _ (.inl q)) fun q => I.ok.has _ (.inr q)
  refine wpAny_comprehension_free (use := use) rfl hs (closure_ok fr) ok.kind (fun y hy e => by rw [ok.uniq y hy, e]) (thn (hi.run pins s σ H _ I h) fun xv s1 hx => thn hx fun itv s2 ⟨it, fp, tn, J, H2, e, I2, T, st2, f2, q⟩ => ?_)
  subst e
  refine PpSet.newSet_ok (newEnv_comp ?_)
  obtain ⟨D, hD⟩ : ∃ D, s2.heap.objs.size = D := ⟨_, rfl⟩
  rw [hD]
  obtain ⟨W, ⟨m0, w0⟩, turn⟩ := q D (I2.hok.fresh (Nat.le_of_eq hD))
  obtain ⟨s3, hs3⟩ : ∃ s3 : Shared, s3 = { s2 with heap := s2.heap.push (bareSet X.w) } := ⟨_, rfl⟩
  have h3 : s3.heap = s2.heap.push (bareSet X.w) := by rw [hs3]
  have I3 : Inv X pins σ (upd H2 D (k.so D k.z)) s3 := by
    rw [hs3]
    exact I2.laid (t' := s2.toks) (fun b o e => Heap.get?_push_of_some _ e) (Nat.le_of_eq hD) (hD ▸ k.new)
  have sz : ∀ b ∈ fp, b < s2.heap.objs.size := fun b hb => (T.obj _ _ st2 b hb).elim fun o z => Heap.lt_size z.1
  have f3 : ∀ b ∈ fp, FpOk X pins (upd H2 D (k.so D k.z)) b ∧ b < s3.heap.objs.size := fun b hb => ⟨⟨by
    rw [upd_ne (hD ▸ Nat.ne_of_lt (sz b hb))]
    exact (f2 b hb).1, (f2 b hb).2⟩, by rw [h3, Heap.size_push]; exact Nat.lt_succ_of_lt (sz b hb)⟩
  have st3 : tn 0 s3.heap := T.keep _ _ _ st2 fun b _ o e => by rw [h3]; exact Heap.get?_push_of_some _ e
  have I4 := block_start I3 ok hN f3
  have pg := hg s3 (upd H2 D (k.so D k.z)) s3.heap.objs.size (cellsFrom (s3.heap.objs.size + 1) scope.names (cloFrom X.env.cells scope.names [])) fp
  have pt := ht s3 (upd H2 D (k.so D k.z)) s3.heap.objs.size (cellsFrom (s3.heap.objs.size + 1) scope.names (cloFrom X.env.cells scope.names [])) fp
  have pe := he s3 (upd H2 D (k.so D k.z)) s3.heap.objs.size (cellsFrom (s3.heap.objs.size + 1) scope.names (cloFrom X.env.cells scope.names [])) fp
  rw [← hs3]
  show codeAny _ _ (.compStart (.SetComp elt [⟨tg, iter, ifs, 0⟩] scope pos) 0 (.ref it) (.ref D) (compEnvC scope (cellsFrom (s3.heap.objs.size + 1) scope.names (cloFrom X.env.cells scope.names [])) s3.heap.objs.size X.env)) (compPost (model X.prog X.w) X.A X.xe use Qf (.ref D) s3.heap.objs.size) { s3 with heap := pushCells (s3.heap.push { cls := .type "dict", data := .dict #[] }) scope.names }
  have nfp : ∀ b ∈ fp, (upd H2 D (k.so D k.z)) b = none := fun b hb => (f3 b hb).1.1
  obtain ⟨ce, hce⟩ : ∃ ce, compEnvC scope (cellsFrom (s3.heap.objs.size + 1) scope.names (cloFrom X.env.cells scope.names [])) s3.heap.objs.size X.env = ce := ⟨_, rfl⟩
  have cL : ce.locals = s3.heap.objs.size := by rw [← hce]; rfl
  rw [hce] at I4 pg pt pe ⊢
  obtain ⟨H3, hH3⟩ : ∃ H3, upd H2 D (k.so D k.z) = H3 := ⟨_, rfl⟩
  rw [hH3] at I3 I4 pg pt pe w0 nfp f3
  obtain ⟨s4, hs4⟩ : ∃ s4 : Shared, { s3 with heap := pushCells (s3.heap.push { cls := .type "dict", data := .dict #[] }) scope.names } = s4 := ⟨_, rfl⟩
  rw [hs4] at I4 ⊢
  have st4 : tn 0 s4.heap := T.keep _ _ _ st3 fun b _ o e => by rw [← hs4]; exact pushCells_keeps _ _ _ _ (Heap.get?_push_of_some _ e)
  have stat : ∀ {σ' : L2.St} {H' : Hp} {s' : Shared}, Inv (X.blk s3 H3 scope ce fp) [] σ' H' s' → (∀ b ∈ fp, H' b = none) → ∀ b ∈ fp, FpOk (X.blk s3 H3 scope ce fp) [] H' b := fun I' hn b hb =>
    ⟨hn b hb, (I'.ok.exf b hb).1, I'.ok.exfs b hb, .inl hb, fun x c e => (I'.ok.exf b hb).2 x c e, fun p hp => absurd (show p ∈ ([] : List (Addr × Obj)) ++ [] from hp) (by simp)⟩
  have loop : codeAny (model X.prog X.w) X.A (.compLoop (.SetComp elt [⟨tg, iter, ifs, 0⟩] scope pos) 0 (.ref it) (.ref D) ce) (compPost (model X.prog X.w) X.A X.xe use Qf (.ref D) s3.heap.objs.size) s4 := by
    refine PpSet.compLoopS_any (fun n s' => ∃ i H', Inv (X.blk s3 H3 scope ce fp) [] (L2.wipe σ (own.map (·.2))) H' s' ∧ tn i s'.heap ∧ (∀ b ∈ fp, H' b = none) ∧ W i n H') (fun n s5 ⟨i, H5, I5, st5, n5, w5⟩ => ?_) m0 ⟨0, H3, I4, st4, nfp, w0⟩
    rcases turn i n H5 w5 with ⟨stop, qq⟩ | ⟨go, Nx, hNx, step⟩
    · refine thnF (T.done (X.blk s3 H3 scope ce fp) rfl rfl rfl hc i [] s5 _ H5 (fun _ _ => False) I5 (stat I5 n5) st5 stop) fun r s6 ⟨hr, I6⟩ => ?_
      subst hr
      have I7 : Inv X pins σ H5 s6 := I3.call' (ch := fp) I6.os I6.base I6.hok I6.bare fun b hb => ⟨(f3 b hb).1.2.2.2.1, (f3 b hb).1.2.1, (f3 b hb).1.2.2.2.2.1, (f3 b hb).1.2.2.2.2.2⟩
      obtain ⟨m, hn, _⟩ := I6.loc
      have z : H5 ce.locals = none := I6.free
      have hn' : s6.heap.Ns ce.locals m := hn
      rw [cL] at hn' z
      exact hRR D s3.heap.objs.size s6 m H5 I7 qq hn' (I3.fpOk (Nat.le_refl _) z)
    · refine thnF (T.item (X.blk s3 H3 scope ce fp) rfl rfl rfl hc i [] s5 _ H5 (fun _ _ => False) I5 (stat I5 n5) st5 go) fun r s6 ⟨u, hr, h6⟩ => ?_
      subst hr
      refine thnF h6 fun _ s7 ⟨x, H7, I7, r7, y7, st7, n7⟩ => ?_
      refine thnF (pg.run _ s7 _ H7 x u _ (I7.pinned (stat I7 n7) (T.obj _ _ st7)) r7 (step x H7 y7)) fun _ s8 ⟨σ8, H8, I8, hw8, q8⟩ => ?_
      refine thnF (pt.run _ s8 σ8 H8 _ I8 q8) fun b s9 ⟨H9, I9, q9⟩ => ?_
      have fin : ∀ {s' : Shared} {H' : Hp}, Inv (X.blk s3 H3 scope ce fp) ([] ++ pinsAt fp s7.heap) σ8 H' s' → Nx H' → ∃ m, m < n ∧ ∃ i H', Inv (X.blk s3 H3 scope ce fp) [] (L2.wipe σ (own.map (·.2))) H' s' ∧ tn i s'.heap ∧ (∀ b ∈ fp, H' b = none) ∧ W i m H' := fun {s' H'} I' nx => by
        obtain ⟨m', hm, w'⟩ := hNx H' nx
        have pin' : ∀ b ∈ fp, ∀ o, s7.heap.get? b = some o → s'.heap.get? b = some o ∧ H' b = none := fun b hb o e => (I'.pin (b, o) (List.mem_append_right _ (List.mem_append_right _ (mem_pinsAt hb e)))).elim fun z1 z2 => ⟨z1, z2.1⟩
        refine ⟨m', hm, i + 1, H', (I'.unpinned (pins := [])).weak (by rw [← hw8, wipe_length]) (fun j v e => (wipe_some (hw8.symm ▸ e)).1), T.keep _ _ _ st7 fun b hb o e => (pin' b hb o e).1, fun b hb => ?_, w'⟩
        obtain ⟨o, e, _⟩ := T.obj _ _ st7 b hb
        exact (pin' b hb o e).2
      cases b with
      | false => exact fin I9 q9
      | true =>
        refine thnF (pe.run _ s9 σ8 H9 _ I9 q9) fun z s10 ⟨yv, H10, I10, r10, t, ku, hD10, had, nx⟩ => ?_
        exact k.add (X := X.blk s3 H3 scope ce fp) rfl rfl rfl rfl I10 hD10 r10 had fun t' s11 hp I11 => fin I11 (nx t' hp)
  exact PpSet.codeAny_compStart_set loop (T.self X.A 0 _ _ _ st4 loop)
theorem pe_set {elt tg iter : Expr} {ifs : List Expr} {scope : Scope} {own : List (PySem.Str × Nat)} {pos : Pos} {wi : TI} {g : TG} {tt : TT} {te : TE} {kt : (Addr → τ → HO) × τ × (V → Hp → τ → κ → Prop) × (τ → κ → τ → Prop)} (k : Stk X.prog X.w X.A X.K τ κ) (hk : kt = k.kt) (hc : X.calm = true) (hN : X.N.Nodup) (hi : PI X tg iter wi) (ok : BlkOk X.N X.env.scope scope own)
    (hg : ∀ (s : Shared) (H : Hp) (C : Addr) (cl : List (PySem.Str × Addr)) (fp : List Addr), PG (X.blk s H scope (compEnvC scope cl C X.env) fp) tg g) (ht : ∀ (s : Shared) (H : Hp) (C : Addr) (cl : List (PySem.Str × Addr)) (fp : List Addr), PTs (X.blk s H scope (compEnvC scope cl C X.env) fp) ifs tt)
    (he : ∀ (s : Shared) (H : Hp) (C : Addr) (cl : List (PySem.Str × Addr)) (fp : List Addr), PE (X.blk s H scope (compEnvC scope cl C X.env) fp) elt te) (hs : ∀ x, foldedSetIterable iter X.env x = pure x := by intro _; rfl) :
    PE X (.SetComp elt [⟨tg, iter, ifs, 0⟩] scope pos) (tSet kt wi g tt te (own.map (·.2))) := by
  subst hk
  refine ⟨fun pins s σ H Q I h => ?_⟩
  rw [PpSet.eval_SetComp]
  exact set_run k hc hN I hi ok hg ht he hs h fun D C s' m H' I' q hn ⟨f0, f1, f2, f3, f4, f5⟩ => ⟨m, hn, fun h'' sb => ⟨.ref D, H', I'.turned (t' := s'.toks) (fun b o hb e => (sb.2 b hb).trans e) f0 f1 f3 f4 f5, rfl, q⟩⟩
end
/-! ### sets of ints -/
structure IntS where
  S : Int → Bool
  n : Nat
def addI (c : Int) (t : IntS) : IntS := ⟨fun j => t.S j || decide (j = c), if t.S c = true then t.n else t.n + 1⟩
def preI (y : V) (_ : Hp) (t : IntS) (c : Int) : Prop := y = .int c ∧ t.n + 1 < scanBound
def postI (t : IntS) (c : Int) (t' : IntS) : Prop := t' = addI c t
def ktI (w : World) : (Addr → IntS → HO) × IntS × (V → Hp → IntS → Int → Prop) × (IntS → Int → IntS → Prop) := (fun D t => SetO w D t.S t.n, ⟨fun _ => false, 0⟩, preI, postI)
def stkI (P : Program) (w : World) (A : Around) (K : PySem.W.Frag) : Stk P w A K IntS Int where
  so := fun D t => SetO w D t.S t.n
  z := ⟨fun _ => false, 0⟩
  pre := preI
  post := postI
  new := setO_new (setR_fresh w)
  add := by
    rintro X pins σ H s E D t c y u Q rfl rfl rfl rfl I hD r ⟨rfl, room⟩ h
    obtain ⟨tk, rfl⟩ := r
    have R := setO_get I hD
    refine setR_add R room fun h' sb new => ?_
    have he : ∃ u, h'.get? D = some u := by
      have ⟨o, _, _, _, ho, _⟩ := new
      exact ⟨o, ho⟩
    exact h (addI c t) _ rfl (I.write (e := D) (t' := s.toks + 1) (by rw [hD]; trivial) (.inl rfl) (fun b u hb hu => (sb.2 b hb).trans hu) he (setO_new new))
/-! ### sorted({e for x in xs if c}), the data of it -/
section
variable {S τ : Type} {J : Jc S} {ρ : Dm.Env} {σ : Sl} {G G' H : Hp} {L : Led}
def intD : D → Option Int
  | .int i => some i
  | _ => none
def scM (un : D → Option τ) (c : τ → MS S Bool) (f : τ → MS S D) : List Int → List D → MS S (List Int)
  | acc, [] => if acc.length < 64 then ret acc else stk
  | acc, d :: ds => bnd (lft (un d)) fun t => bnd (nex (c t)) fun b => if b = true then bnd (nex (f t)) fun y => bnd (lft (intD y)) fun k => if acc.length < 63 then scM un c f (k :: acc) ds else stk else scM un c f acc ds
def memS (acc : List Int) : IntS → Prop := fun t => (∀ j, t.S j = true ↔ j ∈ acc) ∧ t.n ≤ acc.length
theorem EvG.runA {α γ : Type} {ρ' : Dm.Env} {σ' : Sl} {L' : Led} {l : Led} {R1 : Sl → Hp → γ → α → Prop} {t : Sl → Hp → (γ → Hp → Prop) → Prop} {Q : VK} {m : MS S α} {k : α → MS S (List D)} {s : S} (h1 : EvG (J.addL l) R1 t ρ' m)
    (o : Ok J.Z (l ++ J.lay s) ρ' G σ' L' H) (h : PstL J ρ σ L G Q (bnd (nex m) k s)) {P : γ → Hp → Prop} (kk : ∀ a b G' s' H', Same G G' → Ok J.Z (l ++ J.lay s') ρ' G' σ' L' H' → R1 σ' G' b a → PstL J ρ σ L G' Q (k a s') → P b H') : t σ' H P := by
  refine h1 σ' G s H L' o _ ?_
  have h' : PstL J ρ σ L G Q ((nex m s).go k) := h
  unfold nex at h'
  cases e : m s with
  | stuck =>
    rw [e] at h'
    exact h'
  | ex c fs s' =>
    rw [e] at h'
    exact h'.elim
  | ok a s' =>
    rw [e] at h'
    exact fun b G' H' sm o' r => kk a b G' s' H' sm o' r (PstL.mono sm h')
theorem el_sortsc {w : World} {wi : TI} {g : TG} {tt : TT} {te : TE} {un : D → Option τ} {ex : τ → Dm.Env → Dm.Env} {js vs : List Nat} {m : MS S (List D)} {c : τ → MS S Bool} {f : τ → MS S D} (h : EvI J wi ρ m) (hg : ∀ l, Tg (J.addL l) g un ex js)
    (ht : ∀ t l, EvT (J.addL l) tt (ex t (wipeE ρ vs)) (c t)) (he : ∀ t l, Ev (J.addL l) te (ex t (wipeE ρ vs)) (f t)) (hj : ∀ j ∈ js, j ∈ vs := by decide) (hO : ∀ v ∈ vs, noO ρ[v]? = true := by decide) :
    EvL J (tCB (rSortedSet w) (tCons (tSet (ktI w) wi g tt te vs) tNil)) ρ (bnd m fun ds => bnd (lft (mkL ds)) fun ds => bnd (scM un c f [] ds) fun ns => ret ((sortI ns).map D.int)) := fun σ G s H L o Q q =>
  h.runL o q fun ds0 I G1 s1 H1 e1 o1 wk q1 Dp hD => by
    cases hds : mkL ds0 with
    | none =>
      rw [hds] at q1
      exact q1.elim
    | some ds =>
    rw [hds] at q1
    obtain ⟨rfl, hlen⟩ := mkL_some hds
    have q1 : PstL J ρ σ L G1 Q (bnd (scM un c f [] ds) (fun ns => ret ((sortI ns).map D.int)) s1) := q1
    let Po : Nat → Hp → Prop := fun i H => ∃ acc t G2 s2, Same G1 G2 ∧ Cells J.Z G2 ρ σ L ∧ Wd G2 ((Dp, SetO w Dp t.S t.n) :: (L ++ J.lay s2)) H ∧ memS acc t ∧ acc.length ≤ i ∧ PstL J ρ σ L G2 Q (bnd (scM un c f acc (ds.drop i)) (fun ns => ret ((sortI ns).map D.int)) s2)
    refine ⟨fun i m H => m = ds.length - i ∧ i ≤ ds.length ∧ Po i H, ⟨ds.length, by simp, Nat.zero_le _, [], ⟨fun _ => false, 0⟩, G1, s1, Same.refl _, o1.1, o1.2.keep hD, ⟨fun j => by simp, Nat.le_refl _⟩, Nat.le_refl _, q1⟩, ?_⟩
    rintro i m H ⟨rfl, hi, acc, t, G2, s2, sm2, cl2, w2, r2, hle, q2⟩
    by_cases hlt : i < ds.length
    · refine .inr ⟨wk.goes i H hlt (sm2.trans w2.same), Po (i + 1), fun H' p' => ⟨ds.length - (i + 1), by omega, rfl, hlt, p'⟩, fun x H' y => ?_⟩
      have y := wk.yields i H x H' hlt (sm2.trans w2.same) y
      have o2 : Ok J.Z ((Dp, SetO w Dp t.S t.n) :: J.lay s2) ρ G2 σ L H := ⟨cl2, w2.perm List.perm_middle⟩
      obtain ⟨d, G3, hd, sm3, o3, r⟩ := y.ok sm2 o2
      have ed : ds.drop i = d :: ds.drop (i + 1) := by
        rw [List.drop_eq_getElem_cons hlt]
        rw [List.getElem?_eq_getElem hlt] at hd
        cases hd
        rfl
      rw [ed] at q2
      cases hu : un d with
      | none =>
        unfold scM at q2
        rw [hu] at q2
        exact q2.elim
      | some u =>
        unfold scM at q2
        rw [hu] at q2
        have q3 : PstL J ρ σ L G2 Q (bnd (bnd (nex (c u)) fun b => if b = true then bnd (nex (f u)) fun y => bnd (lft (intD y)) fun k => if acc.length < 63 then scM un c f (k :: acc) (ds.drop (i + 1)) else stk else scM un c f acc (ds.drop (i + 1))) (fun ns => ret ((sortI ns).map D.int)) s2) := q2
        rw [bnd_bnd] at q3
        have ow : Ok (J.addL [(Dp, SetO w Dp t.S t.n)]).Z ((J.addL [(Dp, SetO w Dp t.S t.n)]).lay s2) (wipeE ρ vs) G3 (L2.wipe σ vs) L H' := ⟨o3.1.wipe hO, o3.2⟩
        refine (hg [(Dp, SetO w Dp t.S t.n)]).go d u _ x _ G3 s2 H' L hu ow r _ fun σ4 L4 o4 hlen4 hsame hL4 => ?_
        have eL : L4 = L := hL4 fun j hjj => wipeE_O (hO j (hj j hjj)) vs
        subst eL
        refine ⟨wipe_back hj hlen4 hsame, ?_⟩
        refine (ht u [(Dp, SetO w Dp t.S t.n)]).runA (ρ := ρ) (σ := σ) (L := L4) (J := J) o4 (PstL.mono sm3 q3) fun b b' G5 s5 H5 sm5 o5 hb q5 => ?_
        cases hb
        have sm35 := sm3.trans sm5
        cases b with
        | false => exact ⟨acc, t, G5, s5, sm2.trans sm35, cl2.mono sm35, o5.2.perm List.perm_middle.symm, r2, Nat.le_succ_of_le hle, q5⟩
        | true =>
          rw [if_pos rfl, bnd_bnd] at q5
          refine (he u [(Dp, SetO w Dp t.S t.n)]).runA (ρ := ρ) (σ := σ) (L := L4) (J := J) o5 q5 fun y vv G6 s6 H6 sm6 o6 ry q6 => ?_
          rw [bnd_bnd] at q6
          have sm36 := sm35.trans sm6
          cases hy : intD y with
          | none =>
            rw [hy] at q6
            exact q6.elim
          | some k =>
            rw [hy] at q6
            have q6 : PstL J ρ σ L4 G6 Q (bnd (if acc.length < 63 then scM un c f (k :: acc) (ds.drop (i + 1)) else stk) (fun ns => ret ((sortI ns).map D.int)) s6) := q6
            by_cases h63 : acc.length < 63
            case neg =>
              rw [if_neg h63] at q6
              exact q6.elim
            rw [if_pos h63] at q6
            have ey : y = .int k := by
              cases y <;> first | (cases hy; rfl) | cases hy
            subst ey
            cases ry
            have w6 : Wd G6 ((Dp, SetO w Dp t.S t.n) :: (L4 ++ J.lay s6)) H6 := o6.2.perm List.perm_middle.symm
            have h6 := (w6.own (Dp, SetO w Dp t.S t.n) List.mem_cons_self).1
            refine ⟨t, k, h6, ⟨rfl, ?_⟩, fun t' ht' => ?_⟩
            · have := r2.2
              show t.n + 1 < 4096
              omega
            · have ht' : t' = addI k t := ht'
              subst ht'
              refine ⟨k :: acc, addI k t, G6, s6, sm2.trans sm36, cl2.mono sm36, w6.put (L1 := []), ⟨fun j => ?_, ?_⟩, Nat.succ_le_succ hle, q6⟩
              · show (t.S j || decide (j = k)) = true ↔ j ∈ k :: acc
                rw [Bool.or_eq_true, decide_eq_true_eq, r2.1 j, List.mem_cons]
                exact Or.comm
              · show (if t.S k = true then t.n else t.n + 1) ≤ (k :: acc).length
                have := r2.2
                rw [List.length_cons]
                split <;> omega
    · have e : i = ds.length := by omega
      subst e
      refine .inl ⟨wk.stops H (sm2.trans w2.same), ?_⟩
      rw [List.drop_length] at q2
      have q3 : PstL J ρ σ L G2 Q (bnd (if acc.length < 64 then ret acc else stk) (fun ns => ret ((sortI ns).map D.int)) s2) := q2
      by_cases h64 : acc.length < 64
      · rw [if_pos h64] at q3
        refine ⟨Dp, t.S, t.n, rfl, (w2.own (Dp, SetO w Dp t.S t.n) List.mem_cons_self).1, by have := r2.2; omega, fun ms p2 hs hm hl hp2 => ?_⟩
        have em : ms = sortI acc := asc_eq hs (sortI_sorted acc) fun k => by
          rw [hm k, sortI_mem, r2.1 k]
        subst em
        have ok9 : Ok J.Z (J.lay s2) ρ (upd G2 Dp (SetO w Dp t.S t.n)) σ L H := ⟨cl2.mono w2.frzS, w2.frz⟩
        exact q3 p2 _ _ _ w2.frzS (ok9.nw hp2) (ints_rp _)
      · rw [if_neg h64] at q3
        exact q3.elim
end
end Dm

set_option Elab.async false
set_option linter.all false
set_option maxRecDepth 100000
set_option maxHeartbeats 4000000
namespace Dm
open PySem PySem.Spec PyProof.Rows L2
/-! ### objects of own classes as values: what is known of a class -/
/-- the kinds of data, as types -/
def kindN : List String := ["NoneType", "bool", "int", "str", "list", "tuple", "dict"]
structure OCls (K : PySem.W.Frag) (C : Addr) : Prop where
  ins : C8.InsC K C
  kp : PySem.W.keepIn K (.ref C) = true
  isT : ∀ t ∈ kindN, PySem.W.kitOne K (.ref C) (.type t) = some false
  tIs : ∀ t ∈ kindN, PySem.W.kitOne K (.type t) (.ref C) = some false
/-- the classes numbered from lo to hi -/
structure ZO (Z : Wo) (lo hi : Nat) : Prop where
  cls : ∀ c, lo ≤ c → c < hi → OCls Z.K (Z.cl c)
  sub : ∀ c c', lo ≤ c → c < hi → lo ≤ c' → c' < hi → PySem.W.kitOne Z.K (.ref (Z.cl c)) (.ref (Z.cl c')) = some (decide (c = c'))
  noat : ∀ c f, lo ≤ c → c < hi → f ∈ Z.fn c → NoAttr Z.K (Z.cl c) f
  nd : ∀ c, lo ≤ c → c < hi → (Z.fn c).Nodup
  few : ∀ c, lo ≤ c → c < hi → (Z.fn c).length < 900
section
variable {S : Type} {J : Jc S} {α β τ : Type} {ρ : Dm.Env} {σ : Sl} {G G' H : Hp} {L : Led} {lo hi : Nat}
def oFld (lo hi : Nat) (fn : Nat → List Str) (f : Str) : D → Option D
  | .obj c fs => if lo ≤ c ∧ c < hi then fld (fn c) fs f else none
  | _ => none
theorem zip_mem {α β : Type} {a : α} [BEq α] [LawfulBEq α] {b : β} : ∀ {xs : List α} {ys : List β}, (xs.zip ys).lookup a = some b → a ∈ xs
  | [], _, h => by rw [List.zip_nil_left] at h; cases h
  | _ :: _, [], h => by rw [List.zip_nil_right] at h; cases h
  | x :: xs, y :: ys, h => by
    rw [List.zip_cons_cons, List.lookup_cons] at h
    by_cases e : (a == x) = true
    · rw [beq_iff_eq.1 e]
      simp
    · rw [show (a == x) = false from by simpa using e] at h
      exact List.mem_cons_of_mem _ (zip_mem h)
theorem ev_fld (zo : ZO J.Z lo hi) {f : Str} {te : TE} {m : MS S D} (h : EvX J te ρ m) : Ev J (tFld J.Z.K te f) ρ (bnd m fun d => lft (oFld lo hi J.Z.fn f d)) := fun σ G s H L o Q q =>
  h.run o q fun d x G1 s1 H1 e1 o1 rx q1 => Pst.lft q1 fun z hz q2 => by
    cases d with
    | obj c fs =>
      have hz : (if lo ≤ c ∧ c < hi then fld (J.Z.fn c) fs f else none) = some z := hz
      by_cases hc : lo ≤ c ∧ c < hi
      case neg => rw [if_neg hc] at hz; cases hz
      rw [if_pos hc] at hz
      obtain ⟨a, dx, xs, rfl, ha, hl, r⟩ := rX.obj o1 rx
      obtain ⟨v, hv, rv⟩ := zip_look r hz
      exact ⟨a, J.Z.cl c, dx, _, v, rfl, ha, (zo.cls c hc.1 hc.2).ins.cl, zo.noat c f hc.1 hc.2 (zip_mem hz), hv, q2 _ _ _ (Same.refl _) o1 rv⟩
    | _ => cases hz
/-! ### isinstance(x, C) -/
def oIsC (lo hi c0 : Nat) : D → Option D
  | .obj c _ => if lo ≤ c ∧ c < hi then some (.bl (decide (c = c0))) else none
  | _ => some (.bl false)
theorem tyN_kind {d : D} (h : ∀ c fs, d ≠ .obj c fs) : tyN d ∈ kindN := by
  cases d <;> first | exact absurd rfl (h _ _) | simp [kindN, tyN]
theorem ty_plain {K : PySem.W.Frag} {B : Led} {x : V} {d : D} (o : Ok J.Z B ρ G σ L H) (rx : rX J ρ σ G x d) (h : ∀ c fs, d ≠ .obj c fs) : TyX K H x (.type (tyN d)) := by
  cases d with
  | non => rw [rX.non rx]; exact .base .non
  | bl c => rw [rX.bl rx]; exact .base (.bl _)
  | int c => rw [rX.int rx]; exact .base (.int _)
  | str c => rw [rX.str rx]; exact .base (.str _)
  | lst ds =>
    obtain ⟨a, xs, rfl, h1, _⟩ := rX.lst o rx
    exact .base (.lst h1)
  | tup ds =>
    obtain ⟨a, xs, rfl, h1, _⟩ := rX.tup o rx
    exact .base (.tup h1)
  | dct ds =>
    obtain ⟨a, rfl, h1⟩ := rX.dct o rx
    exact .base (.dK h1)
  | obj c fs => exact absurd rfl (h c fs)
  | lnt ds =>
    obtain ⟨a, u, xs, rfl, h1, _⟩ := rX.lnt o rx
    exact .base (.frz h1)
theorem ty_obj {K : PySem.W.Frag} {B : Led} {x : V} {c : Nat} {fs : List D} (o : Ok J.Z B ρ G σ L H) (rx : rX J ρ σ G x (.obj c fs)) (oc : OCls K (J.Z.cl c)) : TyX K H x (.ref (J.Z.cl c)) := by
  obtain ⟨a, dx, xs, rfl, ha, hl, r⟩ := rX.obj o rx
  exact .base (.ins ha oc.ins.cl oc.ins.ha oc.ins.hn oc.ins.htk oc.ins.hm)
theorem ev_isc (zo : ZO J.Z lo hi) (c0 : Nat) {te : TE} {m : MS S D} (h : EvX J te ρ m) (h0 : lo ≤ c0 ∧ c0 < hi := by decide) : Ev J (tCB (rIsi J.Z.K) (tCons te (tCons (tC (.ref (J.Z.cl c0))) tNil))) ρ (bnd m fun d => lft (oIsC lo hi c0 d)) := fun σ G s H L o Q q =>
  h.run o q fun d x G1 s1 H1 e1 o1 rx q1 => Pst.lft q1 fun z hz q2 => by
    have plain : (∀ c fs, d ≠ .obj c fs) → z = .bl false → rIsi J.Z.K [x, .ref (J.Z.cl c0)] H1 Q := fun hp e => by
      subst e
      exact ⟨x, _, _, _, _, rfl, .own _, ty_plain o1 rx hp, (zo.cls c0 h0.1 h0.2).tIs _ (tyN_kind hp), q2 _ _ _ (Same.refl _) o1 (.bl _)⟩
    cases d with
    | obj c fs =>
      have hz : (if lo ≤ c ∧ c < hi then some (D.bl (decide (c = c0))) else none) = some z := hz
      obtain ⟨hc, rfl⟩ := ite_some hz
      exact ⟨x, _, _, _, _, rfl, .own _, ty_obj o1 rx (zo.cls c hc.1 hc.2), zo.sub c c0 hc.1 hc.2 h0.1 h0.2, q2 _ _ _ (Same.refl _) o1 (.bl _)⟩
    | _ => cases hz; exact plain (fun _ _ e => by cases e) rfl
/-- isinstance of a built-in type, an object is none of them -/
def oIsO (lo hi : Nat) (T : Ty6) : D → Option D
  | .obj c _ => if lo ≤ c ∧ c < hi then some (.bl false) else none
  | d => oIsA T d
theorem nm_kind (T : Ty6) : T.nm ∈ kindN := by cases T <;> simp [kindN, Ty6.nm]
theorem isa_go {K : PySem.W.Frag} {B : Led} {T : Ty6} {x : V} {d z : D} {Q : VK} (o : Ok J.Z B ρ G σ L H) (rx : rX J ρ σ G x d) (hz : oIsA T d = some z) (q : ∀ v, Rp J.Z G v z → Q v H) : rIsi K [x, .ty T.nm] H Q := by
  unfold oIsA at hz
  cases e : isA T d with
  | none => rw [e] at hz; cases hz
  | some b =>
    rw [e] at hz
    cases hz
    exact ⟨x, _, _, _, b, rfl, .ty _, ty_of o rx e, kit_is e, q _ (.bl _)⟩
theorem ev_isO (zo : ZO J.Z lo hi) (T : Ty6) {te : TE} {m : MS S D} (h : EvX J te ρ m) : Ev J (tCB (rIsi J.Z.K) (tCons te (tCons (tC (.ty T.nm)) tNil))) ρ (bnd m fun d => lft (oIsO lo hi T d)) := fun σ G s H L o Q q =>
  h.run o q fun d x G1 s1 H1 e1 o1 rx q1 => Pst.lft q1 fun z hz q2 => by
    cases d with
    | obj c fs =>
      have hz : (if lo ≤ c ∧ c < hi then some (D.bl false) else none) = some z := hz
      obtain ⟨hc, rfl⟩ := ite_some hz
      exact ⟨x, _, _, _, _, rfl, .ty _, ty_obj o1 rx (zo.cls c hc.1 hc.2), (zo.cls c hc.1 hc.2).isT _ (nm_kind T), q2 _ _ _ (Same.refl _) o1 (.bl _)⟩
    | _ => exact isa_go o1 rx hz fun v r => q2 _ _ _ (Same.refl _) o1 r
/-! ### C(e, ..) -/
def tMakeG (C : Addr) (sp : Sp) (dvs : List V) (E : L2.St → XK) (t : TA) : TE := fun σ H Q => t σ H fun vs H1 => ∀ x dx, H1 x = none → H1 dx = none → dx ≠ x →
  sp (.ref x :: (vs ++ dvs)) (upd (upd H1 dx (.own x)) x (.ins C dx [])) (fun v H2 => v = .non ∧ Q (.ref x) H2) (E σ)
end
section
variable {X : Cx} {CX : CXT} {k : Nat} {f C : Addr} {fd : FuncData} {ps : List Str} {sp : Sp} {dvs : List V} {ds : List Value} {E : L2.St → XK} {x : Str} {p pos : Pos} {e : Expr} {es : List Expr} {t : TA}
theorem run_makeG {pins : List (Addr × Obj)} {σ : L2.St} {H : Hp} {s : Shared} {Q : VK} {us : List Value} {vs : List V} (G : X.A.guards = some []) (M : Mk X.K C f) (F : FnG X.prog X.w X.K X.mg X.base CX k f fd ps sp) (hr : Room (k + 1) X.A) (hb : Binds X.K fd ps ds) (hd : Vals dvs ds)
    (hx : ∀ σ, PassesAt CX X σ (E σ)) (I : Inv X pins σ H s) (r : Vals vs us) (h : ∀ x dx, H x = none → H dx = none → dx ≠ x → sp (.ref x :: (vs ++ dvs)) (upd (upd H dx (.own x)) x (.ins C dx [])) (fun v H2 => v = .non ∧ Q (.ref x) H2) (E σ)) :
    wpAny (model X.prog X.w) X.A (call (.ref C) us) (EP X pins σ Q) X.xe s := by
  obtain ⟨n, hn⟩ : ∃ n, n = s.heap.objs.size := ⟨_, rfl⟩
  have hq := h (s.heap.objs.size + 1) s.heap.objs.size (I.hok.fresh (Nat.le_succ _)) (I.hok.fresh (Nat.le_refl _)) (Nat.ne_of_lt (Nat.lt_succ_self _))
  have I2 := Inv.made (C := C) I
  have rr : Vals (V.ref (s.heap.objs.size + 1) :: (vs ++ dvs)) (Value.ref (s.heap.objs.size + 1) :: (us ++ ds)) := .cons rfl (r.append hd)
  have hl : (Value.ref (s.heap.objs.size + 1) :: us ++ ds).length = ps.length := rr.length.symm.trans (F.len _ _ _ _ hq)
  refine wpAny_call (make_map (f := f) I.kIn M.makes M.init (beq_iff_eq.mp M.fn) (codeAny_mono (F.go _ X.stack _ _ ⟨Value.ref (s.heap.objs.size + 1) :: us, []⟩ (Value.ref (s.heap.objs.size + 1) :: (us ++ ds)) _ _ (E σ) G (hr.make C us []) (I2.env0.make C us []) (hb _ (Value.ref (s.heap.objs.size + 1) :: us) I2.kIn hl) rr hq) fun re s' z => ?_))
  match re, z with
  | .error er, z => exact hx σ pins _ _ er s' I2 z
  | .ok (.ret u), z =>
    obtain ⟨v, H', I3, rv, ev, q3⟩ := I2.after z
    subst ev
    exact ⟨rv, ⟨V.ref (s.heap.objs.size + 1), H', I3, rfl, q3⟩⟩
  | .ok .next, z => exact z.elim
  | .ok .brk, z => exact z.elim
  | .ok .cont, z => exact z.elim
theorem pe_makeG (G : X.A.guards = some []) (M : Mk X.K C f) (F : FnG X.prog X.w X.K X.mg X.base CX k f fd ps sp) (hr : Room (k + 1) X.A) (hg : Gl X x) (hm : X.mg x = some (.ref C)) (hb : Binds X.K fd ps ds) (hd : Vals dvs ds) (hx : ∀ σ, PassesAt CX X σ (E σ))
    (ha : PA X (e :: es) t) (hdb : (x == ("__debug__" : Str)) = false := by decide) (he : starEach (e :: es) X.env = (false, eval e X.env) :: starEach es X.env := by rfl) (hpl : (backTo pos (starEach es X.env)).any (·.1) = false := by rfl) :
    PE X (.Call (.Name x p) (e :: es) [] pos) (tMakeG C sp dvs E t) where
  run := fun pins s σ H Q I h => by
    refine wpAny_Call_Name_kw (ld_glob I hg hm (PySem.W.callWith_K (h₀ := X.base) I.ok.mod.kin M.kp (thn (ha.run pos pins s σ H _ I h) ?_) he hpl) hdb)
    rintro us s1 ⟨vs, H1, I1, r, q⟩
    exact ⟨I1.kIn, run_makeG G M F hr hb hd hx I1 r q⟩
end
end Dm

set_option Elab.async false
set_option linter.all false
set_option maxRecDepth 100000
set_option maxHeartbeats 4000000
namespace Dm
open PySem PySem.Spec PyProof.Rows L2
/-! ### an object is made -/
/-- __init__'s promise: the object at x gets the fields that m says -/
def spI (Z : Wo) (c : Nat) (m : (S : Type) → List D → MS S (List D)) : Sp := fun vs H Q E => ∃ (S : Type) (lay : S → Led) (G : Hp) (s : S) (us : List V) (ds : List D) (x dx : Addr), vs = .ref x :: us ∧ Wd G ((x, .ins (Z.cl c) dx []) :: lay s) H ∧ RpAll Z G us ds ∧
  match m S ds s with
  | .stuck => False
  | .ok fs s' => ∀ xs G' H', Same G G' → Wd G' ((x, .ins (Z.cl c) dx ((Z.fn c).zip xs)) :: lay s') H' → (Z.fn c).length = xs.length → RpAll Z G' xs fs → Q .non H'
  | .ex k fs s' => ∀ dx' vs G' H', Same G G' → Wd G' (lay s') H' → G' dx' = some (.xd ((Z.fn k).zip vs)) → (Z.fn k).length = vs.length → RpAll Z G' vs fs → E (.ref (Z.cl k)) (some dx') H'
theorem spI_len {Z : Wo} {c : Nat} {m : (S : Type) → List D → MS S (List D)} {n : Nat} (hm : ∀ S ds, ds.length ≠ n → m S ds = stk) {vs : List V} {H : Hp} {Q : VK} {E : XK} (h : spI Z c m vs H Q E) : vs.length = n + 1 := by
  obtain ⟨S, lay, G, s, us, ds, x, dx, rfl, w, r, e⟩ := h
  by_cases hl : ds.length = n
  · rw [List.length_cons, r.length, hl]
  · rw [hm S ds hl] at e
    exact e.elim
section
variable {S : Type} {J : Jc S} {α β τ : Type} {ρ : Dm.Env} {σ : Sl} {G G' H : Hp} {L : Led} {lo hi : Nat}
theorem ev_make {c : Nat} {m : (S : Type) → List D → MS S (List D)} {ta : TA} {ma : MS S (List D)} {dvs : List V} {dds : List D} (h : EvA J ta ρ ma) (hd : ∀ G, RpAll J.Z G dvs dds := by intro _; repeat constructor) : Ev J (tMakeG (J.Z.cl c) (spI J.Z c m) dvs (WE J.X) ta) ρ (bnd ma fun ds => bnd (m S (ds ++ dds)) fun fs => ret (.obj c fs)) := fun σ G s H L o Q q =>
  h.run o q fun ds xs G1 s1 H1 e1 o1 r q1 x dx hx hdx ne => by
    have w1 : Wd (upd G1 dx (.own x)) (L ++ J.lay s1) (upd H1 dx (.own x)) := o1.2.lay hdx
    have sm1 : Same G1 (upd G1 dx (.own x)) := o1.2.layS hdx
    have hx' : upd H1 dx (.own x) x = none := by rw [upd_ne (fun e => ne e.symm)]; exact hx
    refine ⟨S, fun s => L ++ J.lay s, _, s1, xs ++ dvs, ds ++ dds, x, dx, rfl, w1.keep hx', (RpAll.append r (hd G1)).mono sm1, ?_⟩
    cases e : m S (ds ++ dds) s1 with
    | stuck =>
      rw [show bnd (m S (ds ++ dds)) (fun fs => ret (D.obj c fs)) s1 = (m S (ds ++ dds) s1).go _ from rfl, e] at q1
      exact q1
    | ex k fs s2 =>
      rw [show bnd (m S (ds ++ dds)) (fun fs => ret (D.obj c fs)) s1 = (m S (ds ++ dds) s1).go _ from rfl, e] at q1
      exact fun dx' vs G' H' sm w a b rr => q1 dx' vs G' H' (sm1.trans sm) ⟨o1.1.mono (sm1.trans sm), w⟩ a b rr
    | ok fs s2 =>
      rw [show bnd (m S (ds ++ dds)) (fun fs => ret (D.obj c fs)) s1 = (m S (ds ++ dds) s1).go _ from rfl, e] at q1
      refine fun ys G' H' sm w hl rr => ⟨rfl, q1 _ _ H' ((sm1.trans sm).trans w.frzS) ⟨o1.1.mono ((sm1.trans sm).trans w.frzS), w.frz⟩ (.obj upd_same hl (rr.mono w.frzS))⟩
/-! the body of __init__: fields are set, one behind the other -/
def Jc.addX (J : Jc S) (l : Led) : Jc S where
  Z := J.Z
  lay := fun s => l ++ J.lay s
  X := J.X
/-- what slot 0 is told by -/
def iF (Z : Wo) (xs : List V) (ds : List D) (G : Hp) : Prop := RpAll Z G xs ds
/-- the statements t, where k fields are set, do what m says of the fields so far -/
def InitB (J : Jc S) (c : Nat) (t : TS) (ρ : Dm.Env) (k : Nat) (m : List D → MS S (List D)) : Prop := ∀ x dx xs ds σ G s H L E, ds.length = k → RpAll J.Z G xs ds → Ok J.Z ((x, .ins (J.Z.cl c) dx ((J.Z.fn c).zip xs)) :: J.lay s) (.A x (iF J.Z xs ds) :: ρ) G σ L H →
  (match m ds s with
    | .stuck => False
    | .ok fs s' => ∀ xs' G' σ' H' , Same G G' → Wd G' ((x, .ins (J.Z.cl c) dx ((J.Z.fn c).zip xs')) :: J.lay s') H' → (J.Z.fn c).length = xs'.length → RpAll J.Z G' xs' fs → E.nx σ' H'
    | .ex k fs s' => ∀ σ' dx' vs G' H', Same G G' → Wd G' (J.lay s') H' → G' dx' = some (.xd ((J.Z.fn k).zip vs)) → (J.Z.fn k).length = vs.length → RpAll J.Z G' vs fs → J.X (.ref (J.Z.cl k)) (some dx') σ' H') → t E σ H
theorem putF_new {f : Str} {v : V} : ∀ {l : List (Str × V)}, f ∉ l.map Prod.fst → putF f v l = l ++ [(f, v)]
  | [], _ => rfl
  | (g, x) :: l, h => by
    have h1 : g ≠ f := fun e => h (by simp [e])
    show (if g = f then (g, v) :: l else (g, x) :: putF f v l) = _
    rw [if_neg h1, putF_new fun q => h (by simp [q])]
    rfl
theorem zip_fst : ∀ {xs : List Str} {ys : List V}, ys.length ≤ xs.length → (xs.zip ys).map Prod.fst = xs.take ys.length
  | _, [], _ => by simp
  | [], _ :: _, h => by simp at h
  | x :: xs, y :: ys, h => by
    simp only [List.zip_cons_cons, List.map_cons, List.length_cons, List.take_succ_cons]
    rw [zip_fst (by simpa using h)]
theorem zip_add {f : Str} {v : V} : ∀ {xs : List Str} {ys : List V}, xs[ys.length]? = some f → xs.zip (ys ++ [v]) = xs.zip ys ++ [(f, v)]
  | [], _, h => by simp at h
  | x :: xs, [], h => by
    have : x = f := by simpa using h
    rw [this]
    simp
  | x :: xs, y :: ys, h => by
    simp only [List.cons_append, List.zip_cons_cons]
    rw [zip_add (by simpa using h)]
theorem nodup_take {f : Str} : ∀ {xs : List Str} {n : Nat}, xs.Nodup → xs[n]? = some f → f ∉ xs.take n
  | [], _, _, h => by simp at h
  | x :: xs, 0, _, h => by simp
  | x :: xs, n + 1, nd, h => by
    rw [List.nodup_cons] at nd
    have h : xs[n]? = some f := by simpa using h
    rw [List.take_succ_cons, List.mem_cons]
    rintro (e | q)
    · rw [e] at h
      exact nd.1 (List.mem_of_getElem? h)
    · exact nodup_take nd.2 h q
theorem init_nil {c k : Nat} (hk : (J.Z.fn c).length = k) : InitB J c tNext ρ k (fun ds => ret ds) := fun x dx xs ds σ G s H L E hl r o q =>
  q xs G σ H (Same.refl _) (o.2.sub (List.sublist_append_right _ _)) (by rw [hk, ← hl, r.length]) r
theorem init_set (zo : ZO J.Z lo hi) {c k : Nat} {f : Str} {te : TE} {t : TS} {me : List D → MS S D} {m : List D → MS S (List D)} (hc : lo ≤ c ∧ c < hi) (hf : (J.Z.fn c)[k]? = some f)
    (he : ∀ x dx xs ds, ds.length = k → Ev (J.addX [(x, .ins (J.Z.cl c) dx ((J.Z.fn c).zip xs))]) te (.A x (iF J.Z xs ds) :: ρ) (me ds)) (h : InitB J c t ρ (k + 1) m) :
    InitB J c (tSeq (sFld J.Z.K (tVar 0) te f) t) ρ k (fun ds => bnd (me ds) fun d => m (ds ++ [d])) := fun x dx xs ds σ G s H L E hl r o q => by
  have lx : xs.length = k := by rw [r.length, hl]
  refine (he x dx xs ds hl) σ G s H L o _ ?_
  have q : (match (me ds s).go fun d => m (ds ++ [d]) with
    | .stuck => False
    | .ok fs s' => ∀ xs' G' σ' H' , Same G G' → Wd G' ((x, .ins (J.Z.cl c) dx ((J.Z.fn c).zip xs')) :: J.lay s') H' → (J.Z.fn c).length = xs'.length → RpAll J.Z G' xs' fs → E.nx σ' H'
    | .ex k fs s' => ∀ σ' dx' vs G' H', Same G G' → Wd G' (J.lay s') H' → G' dx' = some (.xd ((J.Z.fn k).zip vs)) → (J.Z.fn k).length = vs.length → RpAll J.Z G' vs fs → J.X (.ref (J.Z.cl k)) (some dx') σ' H') := q
  cases e : me ds s with
  | stuck =>
    rw [e] at q
    exact q
  | ex j fs s' =>
    rw [e] at q
    exact fun dx' vs G' H' sm o' a b rr => q σ dx' vs G' H' sm ((o'.2.sub (List.sublist_append_right _ _)).sub (List.sublist_cons_self _ _)) a b rr
  | ok d s' =>
    rw [e] at q
    intro v G' H' sm o' rv
    have o' : Ok J.Z ((x, .ins (J.Z.cl c) dx ((J.Z.fn c).zip xs)) :: J.lay s') (.A x (iF J.Z xs ds) :: ρ) G' σ L H' := o'
    have rv : Rp J.Z G' v d := rv
    obtain ⟨hx, hxs⟩ := o'.1.hand (i := 0) rfl
    have hH := (o'.2.own (x, .ins (J.Z.cl c) dx ((J.Z.fn c).zip xs)) (by simp)).1
    have hlt : k < (J.Z.fn c).length := (List.getElem?_eq_some_iff.1 hf).1
    have mem : f ∈ J.Z.fn c := List.mem_of_getElem? hf
    have nw : f ∉ ((J.Z.fn c).zip xs).map Prod.fst := by
      rw [zip_fst (by omega), lx]
      exact nodup_take (zo.nd c hc.1 hc.2) hf
    refine ⟨.ref x, hx, x, J.Z.cl c, dx, _, rfl, hH, (zo.cls c hc.1 hc.2).ins.cl, zo.noat c f hc.1 hc.2 mem, by rw [List.length_zip]; have := zo.few c hc.1 hc.2; omega, ?_⟩
    rw [putF_new nw, ← zip_add (by rw [lx]; exact hf)]
    have r2 : RpAll J.Z G' (xs ++ [v]) (ds ++ [d]) := RpAll.append hxs (.one rv)
    have w2 : Wd G' (L ++ (x, .ins (J.Z.cl c) dx ((J.Z.fn c).zip (xs ++ [v]))) :: J.lay s') (upd H' x (.ins (J.Z.cl c) dx ((J.Z.fn c).zip (xs ++ [v])))) := o'.2.put
    have c2 : Cells J.Z G' (.A x (iF J.Z (xs ++ [v]) (ds ++ [d])) :: ρ) σ L := by
      have c1 := o'.1
      cases c1 with
      | A h1 h2 => exact .A (fun G2 s2 => r2.mono s2) h2
    refine h x dx (xs ++ [v]) (ds ++ [d]) σ G' s' _ L E (by rw [List.length_append, hl]; rfl) r2 ⟨c2, w2⟩ ?_
    have q : (match m (ds ++ [d]) s' with
      | .stuck => False
      | .ok fs s' => ∀ xs' G' σ' H' , Same G G' → Wd G' ((x, .ins (J.Z.cl c) dx ((J.Z.fn c).zip xs')) :: J.lay s') H' → (J.Z.fn c).length = xs'.length → RpAll J.Z G' xs' fs → E.nx σ' H'
      | .ex k fs s' => ∀ σ' dx' vs G' H', Same G G' → Wd G' (J.lay s') H' → G' dx' = some (.xd ((J.Z.fn k).zip vs)) → (J.Z.fn k).length = vs.length → RpAll J.Z G' vs fs → J.X (.ref (J.Z.cl k)) (some dx') σ' H') := q
    cases e2 : m (ds ++ [d]) s' with
    | stuck =>
      rw [e2] at q
      exact q
    | ex j fs s2 =>
      rw [e2] at q
      exact fun σ' dx' vs G2 H2 sm2 => q σ' dx' vs G2 H2 (sm.trans sm2)
    | ok fs s2 =>
      rw [e2] at q
      exact fun xs' G2 σ' H2 sm2 => q xs' G2 σ' H2 (sm.trans sm2)
/-- self.f, a field that is set -/
theorem ev_self (zo : ZO J.Z lo hi) {c : Nat} {f : Str} {d : D} {x dx : Addr} {xs : List V} {ds : List D} (hc : lo ≤ c ∧ c < hi) (hf : fld (J.Z.fn c) ds f = some d) :
    Ev (J.addX [(x, .ins (J.Z.cl c) dx ((J.Z.fn c).zip xs))]) (tFld J.Z.K (tVar 0) f) (.A x (iF J.Z xs ds) :: ρ) (ret d) := EvG.pure fun σ G s H L o Q q => by
  have o : Ok J.Z ((x, .ins (J.Z.cl c) dx ((J.Z.fn c).zip xs)) :: J.lay s) (.A x (iF J.Z xs ds) :: ρ) G σ L H := o
  obtain ⟨hx, hxs⟩ := o.1.hand (i := 0) rfl
  have hH := (o.2.own (x, .ins (J.Z.cl c) dx ((J.Z.fn c).zip xs)) (by simp)).1
  obtain ⟨v, hv, rv⟩ := zip_look hxs hf
  exact ⟨.ref x, hx, x, J.Z.cl c, dx, _, v, rfl, hH, (zo.cls c hc.1 hc.2).ins.cl, zo.noat c f hc.1 hc.2 (zip_mem hv), hv, q v G H (Same.refl _) o rv⟩
/-- the promise, by the body -/
theorem init_body {c : Nat} {t : TS} {N : List Str} {us : List V} {ds : List D} {s : S} {x dx : Addr} {n : Nat} {Q : VK} {X : XK} {m : List D → MS S (List D)} (h : InitB J c t (startE ds n) 0 m) (r : RpAll J.Z G us ds) (w : Wd G ((x, .ins (J.Z.cl c) dx []) :: J.lay s) H) (hl : N.length = ds.length + 1 + n)
    (hX : ∀ cls d σ H, X cls d H → J.X cls d σ H)
    (e : match m [] s with
      | .stuck => False
      | .ok fs s' => ∀ xs G' H', Same G G' → Wd G' ((x, .ins (J.Z.cl c) dx ((J.Z.fn c).zip xs)) :: J.lay s') H' → (J.Z.fn c).length = xs.length → RpAll J.Z G' xs fs → Q .non H'
      | .ex k fs s' => ∀ dx' vs G' H', Same G G' → Wd G' (J.lay s') H' → G' dx' = some (.xd ((J.Z.fn k).zip vs)) → (J.Z.fn k).length = vs.length → RpAll J.Z G' vs fs → X (.ref (J.Z.cl k)) (some dx') H') : t (ends Q) (L2.start N (.ref x :: us)) H := by
  have cs : Cells J.Z G (.A x (iF J.Z [] []) :: startE ds n) (L2.start N (.ref x :: us)) [] := by
    unfold startE L2.start
    have e : N.length - (V.ref x :: us).length = n := by
      rw [List.length_cons, r.length, hl]
      omega
    rw [e]
    exact .A (fun G' s => .nil) (cells_more (cells_none n) r)
  refine h x dx [] [] _ G s H [] (ends Q) rfl .nil ⟨cs, by rw [List.zip_nil_right]; exact w⟩ ?_
  cases e2 : m [] s with
  | stuck =>
    rw [e2] at e
    exact e
  | ex k fs s' =>
    rw [e2] at e
    exact fun σ' dx' vs G' H' sm w a b rr => hX _ _ _ _ (e dx' vs G' H' sm w a b rr)
  | ok fs s' =>
    rw [e2] at e
    exact fun xs' G' σ' H' sm w a rr => e xs' G' H' sm w a rr
end
end Dm

set_option Elab.async false
set_option linter.all false
set_option maxRecDepth 100000
set_option maxHeartbeats 4000000
namespace Dm
open PySem PySem.Spec PyProof.Rows L2
/-! ### len of an object of an own class -/
def rLenO (C : Addr) (sp : Sp) : List V → Hp → VK → Prop := fun xs H Q => ∃ a dx fs, xs = [V.ref a] ∧ H a = some (.ins C dx fs) ∧ sp [.ref a] H (fun v H' => ∃ n : Nat, v = .int (n : Int) ∧ n < 1000000 ∧ Q v H') fun _ _ _ => False
section
variable {X : Cx} {n : Nat} {f C : Addr} {fd : FuncData} {ps : List Str} {sp : Sp}
theorem call_lenO (G : X.A.guards = some []) (F : FnG X.prog X.w X.K X.mg X.base (L2.CX X.prog X.w) n f fd ps sp) (hr : Room (n + 1) X.A) (hs : PySem.W.findIn X.K (.ref C) "__len__" = some (some (.ref f))) (hf : PySem.W.isFn X.K (.ref f) = true) (hb : Binds X.K fd ps []) :
    CallR X (.builtin "len") (rLenO C sp) := by
  rintro pins s σ H xs us Q I r ⟨a, dx, fs, rfl, ha, hq⟩
  obtain ⟨u, rfl, ru⟩ : ∃ u, us = [u] ∧ RelV (.ref a) u := by
    cases r with
    | cons h t =>
      cases t
      exact ⟨_, rfl, h⟩
  have ru : u = Value.ref a := ru
  subst ru
  obtain ⟨mA, J, _⟩ := ins_get I.hok ha
  obtain ⟨od, J, _⟩ := J.look
  obtain ⟨m, hF⟩ := I.fr
  have rr : Vals [V.ref a] [Value.ref a] := .cons rfl .nil
  have hl := F.len _ _ _ _ hq
  refine PySem.W.len_K hF I.ok.mod.kin J hs hf ?_
  refine wpAny_call (codeAny_mono (F.go X.A.in1 X.stack s H ⟨[.ref a], []⟩ [.ref a] [.ref a] _ _ G hr.in1 I.env0.in1 (by
    have := hb s [.ref a] I.kIn (by simpa using hl)
    simpa using this) rr hq) fun re s' z => ?_)
  match re, z with
  | .error er, z => exact passF pins σ H s er s' I z
  | .ok (.ret w), z =>
    obtain ⟨v, H', I', rv, k, ev, hk, q⟩ := I.after z
    subst ev
    obtain ⟨t, rfl⟩ := rv
    refine ⟨⟨by omega, ?_⟩, .int (k : Int), H', I'.tok _, ⟨_, rfl⟩, q⟩
    have : (k : Int) < 1000000 := by omega
    exact Int.lt_trans this (by decide)
  | .ok .next, z => exact z.elim
  | .ok .brk, z => exact z.elim
  | .ok .cont, z => exact z.elim
end
section
variable {S : Type} {J : Jc S} {α β τ : Type} {ρ : Dm.Env} {σ : Sl} {G G' H : Hp} {L : Led} {lo hi : Nat}
def natO : D → Option D
  | .int k => if 0 ≤ k ∧ k.natAbs < 1000000 then some (.int k) else none
  | _ => none
/-- the length, as the class's own def tells it -/
def lenM (c0 : Nat) (m : (S : Type) → List D → MS S D) (d : D) : MS S D := match d with
  | .obj c fs => if c = c0 then bnd (nex (m S [.obj c fs])) fun d => lft (natO d) else stk
  | _ => stk
theorem lenO_go {c0 : Nat} {m : (S : Type) → List D → MS S D} {d : D} {x : V} {G1 H1 : Hp} {s1 : S} {Q : VK} (o1 : Ok J.Z (J.lay s1) ρ G1 σ L H1) (rx : rX J ρ σ G1 x d) (q1 : Pst J ρ σ L G1 (rP J) Q (lenM c0 m d s1)) : rLenO (J.Z.cl c0) (spM J.Z m) [x] H1 Q := by
    cases d with
    | obj c fs =>
      unfold lenM at q1
      dsimp only at q1
      by_cases hc : c = c0
      case neg =>
        rw [if_neg hc] at q1
        exact q1.elim
      rw [if_pos hc] at q1
      subst hc
      have rx0 : Rp J.Z G1 x (.obj c fs) := by
        rcases rx with r | ⟨_, _, _, _, e⟩
        · exact r
        · cases e
      obtain ⟨a, dx, xs, rfl, ha, hl, r⟩ := rX.obj o1 rx
      refine ⟨a, dx, _, rfl, ha, S, fun s => L ++ J.lay s, G1, s1, [.obj c fs], o1.2, .one rx0, ?_⟩
      have q1 : Pst J ρ σ L G1 (rP J) Q ((nex (m S [.obj c fs]) s1).go fun d => lft (natO d)) := q1
      unfold nex at q1
      cases e : m S [.obj c fs] s1 with
      | stuck =>
        rw [e] at q1
        exact q1
      | ex k fs' s2 =>
        rw [e] at q1
        exact q1.elim
      | ok d s2 =>
        rw [e] at q1
        have q1 : Pst J ρ σ L G1 (rP J) Q ((lft (natO d) : MS S D) s2) := q1
        intro v G' H' sm w rv
        refine Pst.lft q1 fun z hz q2 => ?_
        cases d with
        | int k =>
          obtain ⟨hk, rfl⟩ := ite_some (show (if 0 ≤ k ∧ k.natAbs < 1000000 then some (D.int k) else none) = some z from hz)
          cases rv
          obtain ⟨j, rfl⟩ := Int.eq_ofNat_of_zero_le hk.1
          exact ⟨j, rfl, by omega, q2 _ G' H' sm ⟨o1.1.mono sm, w⟩ (.int _)⟩
        | _ => cases hz
    | _ => exact q1.elim
theorem ev_lenO {c0 : Nat} {m : (S : Type) → List D → MS S D} {te : TE} {ma : MS S D} (h : EvX J te ρ ma) : Ev J (tCB (rLenO (J.Z.cl c0) (spM J.Z m)) (tCons te tNil)) ρ (bnd ma fun d => lenM c0 m d) := fun σ G s H L o Q q =>
  h.run o q fun d x G1 s1 H1 e1 o1 rx q1 => lenO_go o1 rx q1
end
section
variable {X : Cx} {K : PySem.W.Frag} {w : World} {P : Program} {mg : Str → Option Value} {base : Heap}
theorem pe_fldK {o : Expr} {ta : TE} {f : Str} {pos : Pos} (h : X.K = K) (he : PE X o ta) (hb : attributeBase o f X.env (eval o X.env) = eval o X.env := by rfl) : PE X (.Attribute o f pos) (tFld K ta f) := h ▸ pe_fld he hb
theorem ps_fldK {o value : Expr} {ta tv : TE} {f : Str} {pos pos' : Pos} (h : X.K = K) (ha : PE X o ta) (hv : PE X value tv) (hs : swapsWith value (some (.Attribute o f pos')) pos.line X.env = pure false := by rfl) : PS X (.Assign [.Attribute o f pos'] value pos) (sFld K ta tv f) := h ▸ ps_fld ha hv hs
end
end Dm

set_option Elab.async false
set_option linter.all false
set_option maxRecDepth 100000
set_option maxHeartbeats 4000000
namespace Dm
open PySem PySem.Spec PyProof.Rows L2
/-! ### sets of pairs of ints -/
abbrev TL := List (Addr × List Int)
def preT (K : PySem.W.Frag) (y : V) (H : Hp) (t : TL) (c : Addr × List Int) : Prop := y = .ref c.1 ∧ SqT K H c.1 (c.2.map V.int) ∧ (∀ p ∈ t, SqT K H p.1 (p.2.map V.int)) ∧ t.length + 1 < 64
def postT (t : TL) (c : Addr × List Int) (t' : TL) : Prop := (c.2 ∈ t.map (·.2) → t' = t) ∧ (c.2 ∉ t.map (·.2) → t'.Perm (c :: t))
def ktT (P : Program) (w : World) (K : PySem.W.Frag) : (Addr → TL → HO) × TL × (V → Hp → TL → Addr × List Int → Prop) × (TL → Addr × List Int → TL → Prop) := (fun D t => SetTO P w D t, [], preT K, postT)
theorem setT_call {P : Program} {w : World} {A : Around} {E : Value → Shared → Prop} {s : Shared} {D x : Addr} {k : List Int} {L : TL} {es : Array (Int × Value)} {ep : Nat} {t : SetTable} {Q : Value → Shared → Prop} (R : SetTR P w s.heap D L es ep t) (hx : IsT P w s.heap k x) (hu : A.units + 64 < cLine) (few : L.length + 1 < 64)
    (q : ∀ h' n L' es' ep' t', Heap.SameBut D s.heap h' → SetTR P w h' D L' es' ep' t' → (k ∈ L.map (·.2) → L' = L) → (k ∉ L.map (·.2) → L'.Perm ((x, k) :: L)) → Q .none { s with heap := h', toks := s.toks + n }) : wpAny (model P w) A (call (.builtin "set.add") [.ref D, .ref x]) Q E s := by
  have ty : s.TypeIs (.ref D) "set" := by
    obtain ⟨o, ho, hex, _⟩ := R.ob
    exact ⟨o, ho, hex.1⟩
  refine wpAny_call_entry F.slot_set_add ty F.entry_set_add ?_ (F.args_set_add_2 _ _)
  unfold Builtin.«set.add» Builtin.Frozenset.oneOther
  simp only [List.isEmpty_nil, bind_assoc]
  unfold Builtin.Frozenset.addrOf setAdd
  refine wpAny_bind (wpAny_pure ?_)
  try dsimp only
  refine wpAny_bind (wpAny_pure ?_)
  try dsimp only
  refine wpAny_bind ?_
  refine wpAny_holding ?_
  have hu1 : A.in1.units < cLine := by
    show A.units + 1 < cLine
    omega
  refine wpAny_bind (wpAny_pyHash_tuple (by first | exact hu1 | (show A.units < cLine; omega)) hx ?_)
  refine add_at (s := { s with toks := s.toks + (k.length + 1) }) R hx (by first | exact hu1 | (show A.units < cLine; omega)) few fun b h' L' es' ep' t' sb r c1 c2 => ?_
  show wpAny _ _ (PySem.ret Value.none) _ _ _
  exact wpAny_pure ⟨_, rfl, q h' _ L' es' ep' t' sb r c1 c2⟩
def stkT (P : Program) (w : World) (A : Around) (K : PySem.W.Frag) (hu : A.units + 64 < cLine) : Stk P w A K TL (Addr × List Int) where
  so := fun D t => SetTO P w D t
  z := []
  pre := preT K
  post := postT
  new := setTO_new (setTR_fresh (Heap.get?_push_size _ rfl)).t0
  add := by
    rintro X pins σ H s E D t ⟨x, k⟩ y u Q rfl rfl rfl rfl I hD r ⟨rfl, hx, hk, few⟩ h
    have r : u = Value.ref x := r
    subst r
    have R0 : SetT0 X.prog X.w s.heap D t := (I.hok D _ hD).1
    obtain ⟨es, ep, tb, R⟩ := R0.full fun p hp => I.isT (hk p hp)
    refine setT_call R (I.isT hx) hu few fun h' n L' es' ep' t' sb R2 c1 c2 => ?_
    have he : ∃ u, h'.get? D = some u := by
      obtain ⟨o, ho, _⟩ := R2.ob
      exact ⟨o, ho⟩
    exact h L' _ ⟨c1, c2⟩ (I.write (e := D) (t' := s.toks + n) (by rw [hD]; trivial) (.inl rfl) (fun b u hb hu => (sb.2 b hb).trans hu) he (setTO_new R2.t0))
/-! ### rows of pairs, ascending, each once -/
abbrev IP := Int × Int
def ltP (p q : IP) : Bool := decide (p.1 < q.1) || (decide (p.1 = q.1) && decide (p.2 < q.2))
theorem ltP_iff {p q : IP} : ltP p q = true ↔ p.1 < q.1 ∨ (p.1 = q.1 ∧ p.2 < q.2) := by
  unfold ltP
  simp
def insP (k : IP) : List IP → List IP
  | [] => [k]
  | x :: r => if ltP k x = true then k :: x :: r else if k = x then x :: r else x :: insP k r
def sortP : List IP → List IP
  | [] => []
  | k :: r => insP k (sortP r)
theorem insP_mem {k y : IP} : ∀ {l : List IP}, y ∈ insP k l ↔ y = k ∨ y ∈ l
  | [] => by simp [insP]
  | x :: r => by
    unfold insP
    split
    · simp
    · split
      · rename_i h
        subst h
        simp
      · simp only [List.mem_cons, insP_mem (l := r)]
        constructor
        · rintro (h | h | h)
          · exact .inr (.inl h)
          · exact .inl h
          · exact .inr (.inr h)
        · rintro (h | h | h)
          · exact .inr (.inl h)
          · exact .inl h
          · exact .inr (.inr h)
theorem ltP_tri {p q : IP} (h : ¬ ltP p q = true) (h2 : p ≠ q) : ltP q p = true := by
  rw [ltP_iff] at h ⊢
  by_cases e : p.1 = q.1
  · have : p.2 ≠ q.2 := fun e2 => h2 (Prod.ext e e2)
    omega
  · omega
theorem ltP_trans {p q r : IP} (h : ltP p q = true) (h2 : ltP q r = true) : ltP p r = true := by
  rw [ltP_iff] at *
  omega
theorem ltP_ne {p q : IP} (h : ltP p q = true) : p ≠ q := fun e => by
  subst e
  rw [ltP_iff] at h
  omega
theorem insP_sorted {k : IP} : ∀ {l : List IP}, l.Pairwise (fun a b => ltP a b = true) → (insP k l).Pairwise (fun a b => ltP a b = true)
  | [], _ => by simp [insP]
  | x :: r, h => by
    unfold insP
    rw [List.pairwise_cons] at h
    split
    · rename_i hk
      rw [List.pairwise_cons, List.pairwise_cons]
      refine ⟨fun y hy => ?_, h.1, h.2⟩
      rcases List.mem_cons.1 hy with q | q
      · rw [q]
        exact hk
      · exact ltP_trans hk (h.1 y q)
    · split
      · rw [List.pairwise_cons]
        exact h
      · rename_i h1 h2
        rw [List.pairwise_cons]
        refine ⟨fun y hy => ?_, insP_sorted h.2⟩
        rcases insP_mem.1 hy with q | q
        · rw [q]
          exact ltP_tri h1 h2
        · exact h.1 y q
theorem sortP_mem {y : IP} : ∀ {l : List IP}, y ∈ sortP l ↔ y ∈ l
  | [] => by simp [sortP]
  | k :: r => by rw [sortP, insP_mem, sortP_mem (l := r), List.mem_cons]
theorem sortP_sorted : ∀ l : List IP, (sortP l).Pairwise (fun a b => ltP a b = true)
  | [] => List.Pairwise.nil
  | k :: r => insP_sorted (sortP_sorted r)
theorem ascP_eq : ∀ {a b : List IP}, a.Pairwise (fun x y => ltP x y = true) → b.Pairwise (fun x y => ltP x y = true) → (∀ k, k ∈ a ↔ k ∈ b) → a = b
  | [], [], _, _, _ => rfl
  | [], y :: b, _, _, h => by have := (h y).2 (by simp); cases this
  | x :: a, [], _, _, h => by have := (h x).1 (by simp); cases this
  | x :: a, y :: b, ha, hb, h => by
    rw [List.pairwise_cons] at ha hb
    have e : x = y := by
      rcases List.mem_cons.1 ((h x).1 (by simp)) with q | q
      · exact q
      · rcases List.mem_cons.1 ((h y).2 (by simp)) with q2 | q2
        · exact q2.symm
        · have h1 := ltP_iff.1 (hb.1 x q)
          have h2 := ltP_iff.1 (ha.1 y q2)
          omega
    subst e
    congr 1
    refine ascP_eq ha.2 hb.2 fun k => ⟨fun hk => ?_, fun hk => ?_⟩
    · rcases List.mem_cons.1 ((h k).1 (by simp [hk])) with q | q
      · exact absurd q.symm (ltP_ne (ha.1 k hk))
      · exact q
    · rcases List.mem_cons.1 ((h k).2 (by simp [hk])) with q | q
      · exact absurd q.symm (ltP_ne (hb.1 k hk))
      · exact q
def prD (p : IP) : D := .tup [.int p.1, .int p.2]
def pairD : D → Option IP
  | .tup [.int i, .int j] => some (i, j)
  | _ => none
theorem pairD_some {d : D} {p : IP} (h : pairD d = some p) : d = prD p := by
  unfold pairD at h
  split at h
  · cases h
    rfl
  · cases h
def bndP (p : IP) : Bool := decide (0 ≤ p.1) && decide (p.1 < 1000) && decide (0 ≤ p.2) && decide (p.2 < 1000)
theorem bndP_iff {p : IP} : bndP p = true ↔ 0 ≤ p.1 ∧ p.1 < 1000 ∧ 0 ≤ p.2 ∧ p.2 < 1000 := by
  unfold bndP
  simp [and_assoc]
theorem code_two (x y : Int) : TS.code 1000 [x, y] = x * 1000 + y := by
  show x * 1000 ^ 1 + (y * 1000 ^ 0 + 0) = x * 1000 + y
  rw [show (1000 : Int) ^ 1 = 1000 from rfl, show (1000 : Int) ^ 0 = 1 from rfl, Int.mul_one, Int.add_zero]
/-- the pairs of a set, each shown by a tuple that stays -/
structure MemP (G : Hp) (acc : List IP) (t : TL) : Prop where
  at_ : ∀ q ∈ t, ∃ p ∈ acc, q.2 = [p.1, p.2] ∧ G q.1 = some (.tup [.int p.1, .int p.2])
  all : ∀ p ∈ acc, [p.1, p.2] ∈ t.map (·.2)
  len : t.length = acc.length
  bd : ∀ p ∈ acc, bndP p = true
theorem MemP.mono {G G' : Hp} {acc : List IP} {t : TL} (s : Same G G') (m : MemP G acc t) : MemP G' acc t :=
  ⟨fun q hq => by
    obtain ⟨p, hp, e, h⟩ := m.at_ q hq
    exact ⟨p, hp, e, s _ _ h⟩, m.all, m.len, m.bd⟩
theorem MemP.sq {K : PySem.W.Frag} {G H : Hp} {acc : List IP} {t : TL} (s : Same G H) (m : MemP G acc t) : ∀ q ∈ t, SqT K H q.1 (q.2.map V.int) := fun q hq => by
  obtain ⟨p, hp, e, h⟩ := m.at_ q hq
  rw [e]
  exact sq_t (s _ _ h)
theorem MemP.add {G : Hp} {acc : List IP} {t t' : TL} {x : Addr} {p : IP} (m : MemP G acc t) (hx : G x = some (.tup [.int p.1, .int p.2])) (hb : bndP p = true) (h : postT t (x, [p.1, p.2]) t') : MemP G (if p ∈ acc then acc else p :: acc) t' := by
  by_cases hp : p ∈ acc
  · rw [if_pos hp, h.1 (m.all p hp)]
    exact m
  · have hn : [p.1, p.2] ∉ t.map (·.2) := fun q => by
      obtain ⟨u, hu, e⟩ := List.mem_map.1 q
      obtain ⟨r, hr, e2, _⟩ := m.at_ u hu
      rw [e] at e2
      have : p = r := by
        cases p
        cases r
        simp at e2
        rw [e2.1, e2.2]
      exact hp (this ▸ hr)
    have pm := h.2 hn
    rw [if_neg hp]
    refine ⟨fun q hq => ?_, fun r hr => ?_, by rw [pm.length_eq, List.length_cons, List.length_cons, m.len], fun r hr => (List.mem_cons.1 hr).elim (fun e => e ▸ hb) (m.bd r)⟩
    · rcases List.mem_cons.1 (pm.mem_iff.1 hq) with e | q2
      · rw [e]
        exact ⟨p, by simp, rfl, hx⟩
      · obtain ⟨r, hr, e⟩ := m.at_ q q2
        exact ⟨r, by simp [hr], e⟩
    · have hs : [r.1, r.2] ∈ ((x, [p.1, p.2]) :: t).map (·.2) := by
        rcases List.mem_cons.1 hr with e | e
        · rw [e]
          simp
        · exact List.mem_cons_of_mem _ (m.all r e)
      exact (pm.map (·.2)).mem_iff.2 hs
/-- what is sorted out of it -/
structure MemQ (G : Hp) (acc : List IP) (t : TL) : Prop where
  at_ : ∀ q ∈ t, ∃ p ∈ acc, q.2 = [p.1, p.2] ∧ G q.1 = some (.tup [.int p.1, .int p.2])
  all : ∀ p ∈ acc, [p.1, p.2] ∈ t.map (·.2)
  bd : ∀ p ∈ acc, bndP p = true
theorem MemQ.sorted {Z : Wo} {G : Hp} {acc : List IP} {t t' : TL} (m : MemQ G acc t) (pm : t'.Perm t) (nd : (t'.map (·.2)).Nodup) (hs : t'.Pairwise (fun q r => TS.code 1000 q.2 ≤ TS.code 1000 r.2)) : RpAll Z G (t'.map fun q => V.ref q.1) ((sortP acc).map prD) := by
  have key : ∀ u : TL, (∀ q ∈ u, ∃ p, q.2 = [p.1, p.2] ∧ bndP p = true ∧ G q.1 = some (.tup [.int p.1, .int p.2])) → ∃ ps : List IP, u.map (·.2) = ps.map (fun p => [p.1, p.2]) ∧ (∀ p ∈ ps, bndP p = true) ∧ RpAll Z G (u.map fun q => V.ref q.1) (ps.map prD) := by
    intro u
    induction u with
    | nil => exact fun _ => ⟨[], rfl, (fun p hp => by cases hp), .nil⟩
    | cons q u ih =>
      intro h
      obtain ⟨p, e, b, hg⟩ := h q (by simp)
      obtain ⟨ps, e2, hb, r⟩ := ih fun x hx => h x (by simp [hx])
      refine ⟨p :: ps, by rw [List.map_cons, List.map_cons, e, e2], fun x hx => (List.mem_cons.1 hx).elim (fun z => z ▸ b) (hb x), .cons (.tup hg (.cons (.int _) (.cons (.int _) .nil))) r⟩
  obtain ⟨ps, e, hb, r⟩ := key t' fun q hq => by
    obtain ⟨p, hp, e, hg⟩ := m.at_ q (pm.mem_iff.1 hq)
    exact ⟨p, e, m.bd p hp, hg⟩
  have inj : ∀ p q : IP, ([p.1, p.2] : List Int) = [q.1, q.2] → p = q := fun p q e => by
    cases p
    cases q
    simp at e
    rw [e.1, e.2]
  have mem : ∀ k, k ∈ ps ↔ k ∈ sortP acc := fun k => by
    rw [sortP_mem]
    constructor
    · intro hk
      have h1 : [k.1, k.2] ∈ t'.map (·.2) := by
        rw [e]
        exact List.mem_map.2 ⟨k, hk, rfl⟩
      obtain ⟨q, hq, e1⟩ := List.mem_map.1 h1
      obtain ⟨p, hp, e2, _⟩ := m.at_ q (pm.mem_iff.1 hq)
      rw [e1] at e2
      rw [inj k p e2]
      exact hp
    · intro hk
      have h1 := (pm.map (·.2)).mem_iff.2 (m.all k hk)
      rw [e] at h1
      obtain ⟨p, hp, e1⟩ := List.mem_map.1 h1
      rw [← inj p k e1]
      exact hp
  have asc : ps.Pairwise (fun a b => ltP a b = true) := by
    have h1 : (t'.map (·.2)).Pairwise (fun a b => TS.code 1000 a ≤ TS.code 1000 b) := List.pairwise_map.2 hs
    rw [e] at h1 nd
    have h1 := List.pairwise_map.1 h1
    have h2 : (ps.map fun p => ([p.1, p.2] : List Int)).Pairwise (· ≠ ·) := nd
    have h2 := List.pairwise_map.1 h2
    refine List.Pairwise.imp_of_mem (fun {a b} ha hbm h => ?_) (h1.and h2)
    obtain ⟨c, ne⟩ := h
    rw [code_two, code_two] at c
    have b1 := bndP_iff.1 (hb a ha)
    have b2 := bndP_iff.1 (hb b hbm)
    rw [ltP_iff]
    by_cases e1 : a.1 = b.1
    · have : a.2 ≠ b.2 := fun e2 => ne (by rw [e1, e2])
      omega
    · omega
  rw [← ascP_eq asc (sortP_sorted acc) mem]
  exact r
/-! ### sorted({(e, f) for x in xs if c}) -/
section
variable {S τ : Type} {J : Jc S} {ρ : Dm.Env} {σ : Sl} {G G' H : Hp} {L : Led}
def scP (un : D → Option τ) (c : τ → MS S Bool) (f : τ → MS S D) : List IP → List D → MS S (List IP)
  | acc, [] => ret acc
  | acc, d :: ds => bnd (lft (un d)) fun t => bnd (nex (c t)) fun b => if b = true then bnd (nex (f t)) fun y => bnd (lft (pairD y)) fun p => if acc.length < 63 ∧ bndP p = true then scP un c f (if p ∈ acc then acc else p :: acc) ds else stk else scP un c f acc ds
theorem el_sortscP {P : Program} {w : World} {wi : TI} {g : TG} {tt : TT} {te : TE} {un : D → Option τ} {ex : τ → Dm.Env → Dm.Env} {js vs : List Nat} {m : MS S (List D)} {c : τ → MS S Bool} {f : τ → MS S D} (h : EvI J wi ρ m) (hg : ∀ l, Tg (J.addL l) g un ex js)
    (ht : ∀ t l, EvT (J.addL l) tt (ex t (wipeE ρ vs)) (c t)) (he : ∀ t l, Ev (J.addL l) te (ex t (wipeE ρ vs)) (f t)) (hj : ∀ j ∈ js, j ∈ vs := by decide) (hO : ∀ v ∈ vs, noO ρ[v]? = true := by decide) :
    EvL J (tCB (rSortedT J.Z.K P w) (tCons (tSet (ktT P w J.Z.K) wi g tt te vs) tNil)) ρ (bnd m fun ds => bnd (lft (mkL ds)) fun ds => bnd (scP un c f [] ds) fun ps => ret ((sortP ps).map prD)) := fun σ G s H L o Q q =>
  h.runL o q fun ds0 I G1 s1 H1 e1 o1 wk q1 Dp hD => by
    cases hds : mkL ds0 with
    | none =>
      rw [hds] at q1
      exact q1.elim
    | some ds =>
    rw [hds] at q1
    obtain ⟨rfl, hlen⟩ := mkL_some hds
    have q1 : PstL J ρ σ L G1 Q (bnd (scP un c f [] ds) (fun ps => ret ((sortP ps).map prD)) s1) := q1
    let Po : Nat → Hp → Prop := fun i H => ∃ acc t G2 s2, Same G1 G2 ∧ Cells J.Z G2 ρ σ L ∧ Wd G2 ((Dp, SetTO P w Dp t) :: (L ++ J.lay s2)) H ∧ MemP G2 acc t ∧ acc.length < 64 ∧ PstL J ρ σ L G2 Q (bnd (scP un c f acc (ds.drop i)) (fun ps => ret ((sortP ps).map prD)) s2)
    refine ⟨fun i m H => m = ds.length - i ∧ i ≤ ds.length ∧ Po i H, ⟨ds.length, by simp, Nat.zero_le _, [], [], G1, s1, Same.refl _, o1.1, o1.2.keep hD, ⟨(fun q hq => by cases hq), (fun p hp => by cases hp), rfl, (fun p hp => by cases hp)⟩, by decide, q1⟩, ?_⟩
    rintro i m H ⟨rfl, hi, acc, t, G2, s2, sm2, cl2, w2, r2, hle, q2⟩
    by_cases hlt : i < ds.length
    · refine .inr ⟨wk.goes i H hlt (sm2.trans w2.same), Po (i + 1), fun H' p' => ⟨ds.length - (i + 1), by omega, rfl, hlt, p'⟩, fun x H' y => ?_⟩
      have y := wk.yields i H x H' hlt (sm2.trans w2.same) y
      have o2 : Ok J.Z ((Dp, SetTO P w Dp t) :: J.lay s2) ρ G2 σ L H := ⟨cl2, w2.perm List.perm_middle⟩
      obtain ⟨d, G3, hd, sm3, o3, r⟩ := y.ok sm2 o2
      have ed : ds.drop i = d :: ds.drop (i + 1) := by
        rw [List.drop_eq_getElem_cons hlt]
        rw [List.getElem?_eq_getElem hlt] at hd
        cases hd
        rfl
      rw [ed] at q2
      cases hu : un d with
      | none =>
        unfold scP at q2
        rw [hu] at q2
        exact q2.elim
      | some u =>
        unfold scP at q2
        rw [hu] at q2
        have q3 : PstL J ρ σ L G2 Q (bnd (bnd (nex (c u)) fun b => if b = true then bnd (nex (f u)) fun y => bnd (lft (pairD y)) fun p => if acc.length < 63 ∧ bndP p = true then scP un c f (if p ∈ acc then acc else p :: acc) (ds.drop (i + 1)) else stk else scP un c f acc (ds.drop (i + 1))) (fun ps => ret ((sortP ps).map prD)) s2) := q2
        rw [bnd_bnd] at q3
        have ow : Ok (J.addL [(Dp, SetTO P w Dp t)]).Z ((J.addL [(Dp, SetTO P w Dp t)]).lay s2) (wipeE ρ vs) G3 (L2.wipe σ vs) L H' := ⟨o3.1.wipe hO, o3.2⟩
        refine (hg [(Dp, SetTO P w Dp t)]).go d u _ x _ G3 s2 H' L hu ow r _ fun σ4 L4 o4 hlen4 hsame hL4 => ?_
        have eL : L4 = L := hL4 fun j hjj => wipeE_O (hO j (hj j hjj)) vs
        subst eL
        refine ⟨wipe_back hj hlen4 hsame, ?_⟩
        refine (ht u [(Dp, SetTO P w Dp t)]).runA (ρ := ρ) (σ := σ) (L := L4) (J := J) o4 (PstL.mono sm3 q3) fun b b' G5 s5 H5 sm5 o5 hb q5 => ?_
        cases hb
        have sm35 := sm3.trans sm5
        cases b with
        | false => exact ⟨acc, t, G5, s5, sm2.trans sm35, cl2.mono sm35, o5.2.perm List.perm_middle.symm, r2.mono sm35, hle, q5⟩
        | true =>
          rw [if_pos rfl, bnd_bnd] at q5
          refine (he u [(Dp, SetTO P w Dp t)]).runA (ρ := ρ) (σ := σ) (L := L4) (J := J) o5 q5 fun y vv G6 s6 H6 sm6 o6 ry q6 => ?_
          rw [bnd_bnd] at q6
          have sm36 := sm35.trans sm6
          cases hy : pairD y with
          | none =>
            rw [hy] at q6
            exact q6.elim
          | some p =>
            rw [hy] at q6
            have q6 : PstL J ρ σ L4 G6 Q (bnd (if acc.length < 63 ∧ bndP p = true then scP un c f (if p ∈ acc then acc else p :: acc) (ds.drop (i + 1)) else stk) (fun ps => ret ((sortP ps).map prD)) s6) := q6
            by_cases h63 : acc.length < 63 ∧ bndP p = true
            case neg =>
              rw [if_neg h63] at q6
              exact q6.elim
            rw [if_pos h63] at q6
            have ey := pairD_some hy
            subst ey
            obtain ⟨a, rfl, ha⟩ : ∃ a, vv = .ref a ∧ G6 a = some (.tup [.int p.1, .int p.2]) := by
              cases ry with
              | tup ha rr =>
                cases rr with
                | cons r1 rr =>
                  cases r1
                  cases rr with
                  | cons r2 rr =>
                    cases r2
                    cases rr
                    exact ⟨_, rfl, ha⟩
            have w6 : Wd G6 ((Dp, SetTO P w Dp t) :: (L4 ++ J.lay s6)) H6 := o6.2.perm List.perm_middle.symm
            have h6 := (w6.own (Dp, SetTO P w Dp t) List.mem_cons_self).1
            have r6 := r2.mono sm36
            refine ⟨t, (a, [p.1, p.2]), h6, ⟨rfl, sq_t (w6.same _ _ ha), r6.sq w6.same, by rw [r6.len]; omega⟩, fun t' ht' => ?_⟩
            refine ⟨if p ∈ acc then acc else p :: acc, t', G6, s6, sm2.trans sm36, cl2.mono sm36, w6.put (L1 := []), r6.add ha h63.2 ht', ?_, q6⟩
            split
            · exact hle
            · rw [List.length_cons]
              omega
    · have e : i = ds.length := by omega
      subst e
      refine .inl ⟨wk.stops H (sm2.trans w2.same), ?_⟩
      rw [List.drop_length] at q2
      have q3 : PstL J ρ σ L G2 Q (.ok ((sortP acc).map prD) s2) := q2
      refine ⟨Dp, t, 2, 1000, rfl, (w2.own (Dp, SetTO P w Dp t) List.mem_cons_self).1, r2.sq w2.same, by decide, fun q hq => ?_, fun t' p2 pm nd hl hs hp2 => ?_⟩
      · obtain ⟨p, hp, e, _⟩ := r2.at_ q hq
        rw [e]
        have := bndP_iff.1 (r2.bd p hp)
        refine ⟨rfl, fun m hm => ?_⟩
        simp only [List.mem_cons, List.not_mem_nil, or_false] at hm
        rcases hm with rfl | rfl
        · exact ⟨this.1, this.2.1⟩
        · exact ⟨this.2.2.1, this.2.2.2⟩
      · have ok9 : Ok J.Z (J.lay s2) ρ (upd G2 Dp (SetTO P w Dp t)) σ L H := ⟨cl2.mono w2.frzS, w2.frz⟩
        exact q3 p2 _ _ _ w2.frzS (ok9.nw hp2) (MemQ.sorted ⟨(r2.mono w2.frzS).at_, r2.all, r2.bd⟩ pm nd hs)
/-! ### sorted(set(xs)), xs a list of pairs -/
def pairsD : List D → Option (List IP)
  | [] => some []
  | d :: ds => match pairD d, pairsD ds with
    | some p, some ps => some (p :: ps)
    | _, _ => none
theorem pairsD_some : ∀ {ds : List D} {ps : List IP}, pairsD ds = some ps → ds = ps.map prD
  | [], ps, h => by cases h; rfl
  | d :: ds, ps, h => by
    unfold pairsD at h
    cases e1 : pairD d with
    | none => rw [e1] at h; cases h
    | some p =>
      cases e2 : pairsD ds with
      | none => rw [e1, e2] at h; cases h
      | some qs =>
        rw [e1, e2] at h
        cases h
        rw [pairD_some e1, pairsD_some e2]
        rfl
theorem pairsD_map : ∀ ps : List IP, pairsD (ps.map prD) = some ps
  | [] => rfl
  | p :: ps => by
    show (match pairD (prD p), pairsD (ps.map prD) with
      | some p, some ps => some (p :: ps)
      | _, _ => none) = _
    rw [pairsD_map ps]
    rfl
def oSortSetP (d : D) : Option (List D) := match d with
  | .lst ds => match pairsD ds with
    | some ps => if ps.length < 64 ∧ ps.all bndP = true then some ((sortP ps).map prD) else none
    | none => none
  | _ => none
theorem pairs_of {Z : Wo} {G : Hp} : ∀ {ps : List IP} {vs : List V}, RpAll Z G vs (ps.map prD) → ∃ ks : TL, vs = ks.map (fun p => V.ref p.1) ∧ ks.map (·.2) = ps.map (fun p => [p.1, p.2]) ∧ ∀ q ∈ ks, ∃ p ∈ ps, q.2 = [p.1, p.2] ∧ G q.1 = some (.tup [.int p.1, .int p.2])
  | [], vs, r => by
    cases r
    exact ⟨[], rfl, rfl, fun q hq => by cases hq⟩
  | p :: ps, vs, r => by
    cases r with
    | cons r1 r2 =>
      obtain ⟨ks, e1, e2, h⟩ := pairs_of r2
      cases r1 with
      | tup ha rr =>
        cases rr with
        | cons ra rr =>
          cases ra
          cases rr with
          | cons rb rr =>
            cases rb
            cases rr
            refine ⟨(_, [p.1, p.2]) :: ks, by rw [e1]; rfl, by rw [List.map_cons, e2]; rfl, fun q hq => ?_⟩
            rcases List.mem_cons.1 hq with e | hq
            · rw [e]
              exact ⟨p, by simp, rfl, ha⟩
            · obtain ⟨s, hs, z⟩ := h q hq
              exact ⟨s, by simp [hs], z⟩
theorem el_sortsetP {P : Program} {w : World} {te : TE} {m : MS S D} (h : EvX J te ρ m) : EvL J (tCB (rSortedT J.Z.K P w) (tCons (tCB (rSetOfT J.Z.K P w) (tCons te tNil)) tNil)) ρ (bnd m fun d => lft (oSortSetP d)) := fun σ G s H L o Q q =>
  h.runL o q fun d x G1 s1 H1 e1 o1 rx q1 => PstL.lft q1 fun es he q2 => by
    cases d with
    | lst ds =>
      unfold oSortSetP at he
      dsimp only at he
      cases e2 : pairsD ds with
      | none => rw [e2] at he; cases he
      | some ps =>
        rw [e2] at he
        dsimp only at he
        obtain ⟨hn, rfl⟩ := ite_some he
        obtain ⟨a, vs, rfl, h1, r1⟩ := rX.lst o1 rx
        rw [pairsD_some e2] at r1
        obtain ⟨ks, ek, em, hk⟩ := pairs_of r1
        subst ek
        have hb : ∀ p ∈ ps, bndP p = true := List.all_eq_true.1 hn.2
        have lk : ks.length = ps.length := by
          have := congrArg List.length em
          rwa [List.length_map, List.length_map] at this
        have sq : ∀ p ∈ ks, SqT J.Z.K H1 p.1 (p.2.map V.int) := fun p hp => by
          obtain ⟨r, _, e, hg⟩ := hk p hp
          rw [e]
          exact sq_t (o1.same _ _ hg)
        refine ⟨a, ks, rfl, sq_l h1, sq, by omega, fun p t hp hsub hall => ?_⟩
        obtain ⟨sm, o2⟩ := o1.lay (u := SetTO P w p t) hp
        have mq : MemQ (upd G1 p (SetTO P w p t)) ps t := ⟨fun q hq => by
          obtain ⟨r, hr, e, hg⟩ := hk q (hsub q hq)
          exact ⟨r, hr, e, sm _ _ hg⟩, fun r hr => by
          have : [r.1, r.2] ∈ ks.map (·.2) := by
            rw [em]
            exact List.mem_map.2 ⟨r, hr, rfl⟩
          obtain ⟨u, hu, e⟩ := List.mem_map.1 this
          rw [← e]
          exact hall u hu, hb⟩
        refine ⟨p, t, 2, 1000, rfl, upd_same, fun q hq => ?_, by decide, fun q hq => ?_, fun t' p2 pm nd hl hs hp2 => ?_⟩
        · obtain ⟨r, _, e, hg⟩ := mq.at_ q hq
          rw [e]
          exact sq_t (o2.same _ _ hg)
        · obtain ⟨r, hr, e, _⟩ := mq.at_ q hq
          rw [e]
          have := bndP_iff.1 (hb r hr)
          refine ⟨rfl, fun m hm => ?_⟩
          simp only [List.mem_cons, List.not_mem_nil, or_false] at hm
          rcases hm with rfl | rfl
          · exact ⟨this.1, this.2.1⟩
          · exact ⟨this.2.2.1, this.2.2.2⟩
        · exact q2 p2 _ _ _ sm (o2.nw hp2) (mq.sorted pm nd hs)
    | _ => cases he
end
section
variable {X : Cx} {K : PySem.W.Frag} {w : World} {P : Program}
theorem cr_sortedTK (hk : X.K = K) (hp : X.prog = P) (hw : X.w = w) (hc : X.calm = true) : CallR X (.builtin "sorted") (rSortedT K P w) := hk ▸ hp ▸ hw ▸ cr_sortedT hc
theorem cr_setOfTK (hk : X.K = K) (hp : X.prog = P) (hw : X.w = w) (hc : X.calm = true) (hu : X.A.units + 64 < cLine) : CallR X (.type "set") (rSetOfT K P w) := hk ▸ hp ▸ hw ▸ cr_setOfT hc hu
end
end Dm

set_option Elab.async false
set_option linter.all false
set_option maxRecDepth 100000
set_option maxHeartbeats 4000000
namespace Dm
open PySem PySem.Spec PyProof.Rows L2
section
variable {S : Type} {J : Jc S} {α β τ : Type} {ρ : Dm.Env} {σ : Sl} {G G' H : Hp} {L : Led} {lo hi : Nat}
theorem ev_selfL (zo : ZO J.Z lo hi) {c : Nat} {f : Str} {x dx : Addr} {xs : List V} {ds : List D} (hc : lo ≤ c ∧ c < hi) :
    Ev (J.addX [(x, .ins (J.Z.cl c) dx ((J.Z.fn c).zip xs))]) (tFld J.Z.K (tVar 0) f) (.A x (iF J.Z xs ds) :: ρ) (lft (fld (J.Z.fn c) ds f)) := by
  cases e : fld (J.Z.fn c) ds f with
  | none => exact fun σ G s H L o Q q => q.elim
  | some d => exact ev_self zo hc e
/-- the length of an object of class c0, or of what has a length of its own -/
def lenU (c0 : Nat) (m : (S : Type) → List D → MS S D) (d : D) : MS S D := match d with
  | .obj c fs => lenM c0 m (.obj c fs)
  | d => lft (oLen d)
def rLenU (K : PySem.W.Frag) (C : Addr) (sp : Sp) : List V → Hp → VK → Prop := fun xs H Q => rLn K xs H Q ∨ rLenO C sp xs H Q
theorem ev_lenU {c0 : Nat} {m : (S : Type) → List D → MS S D} {te : TE} {ma : MS S D} (h : EvX J te ρ ma) : Ev J (tCB (rLenU J.Z.K (J.Z.cl c0) (spM J.Z m)) (tCons te tNil)) ρ (bnd ma fun d => lenU c0 m d) := fun σ G s H L o Q q =>
  h.run o q fun d x G1 s1 H1 e1 o1 rx q1 => by
    by_cases hd : ∃ c fs, d = .obj c fs
    · obtain ⟨c, fs, rfl⟩ := hd
      exact .inr (lenO_go o1 rx q1)
    · refine .inl ?_
      have q1 : Pst J ρ σ L G1 (rP J) Q (lft (oLen d) s1) := by
        cases d <;> first | exact absurd ⟨_, _, rfl⟩ hd | exact q1
      exact Pst.lft q1 fun z hz q2 => o1_len σ G1 s1 H1 L x d z o1 rx hz Q q2
end
section
variable {X : Cx} {K : PySem.W.Frag} {n : Nat} {f C : Addr} {fd : FuncData} {ps : List Str} {sp : Sp}
theorem call_lenU (hk : X.K = K) (G : X.A.guards = some []) (F : FnG X.prog X.w X.K X.mg X.base (L2.CX X.prog X.w) n f fd ps sp) (hr : Room (n + 1) X.A) (hs : PySem.W.findIn K (.ref C) "__len__" = some (some (.ref f))) (hf : PySem.W.isFn K (.ref f) = true) (hb : Binds K fd ps []) :
    CallR X (.builtin "len") (rLenU K C sp) := by
  subst hk
  exact CallR.either call_ln (call_lenO G F hr hs hf hb)
end
end Dm

set_option Elab.async false
set_option linter.all false
set_option maxRecDepth 100000
set_option maxHeartbeats 4000000
namespace Dm
open PySem PySem.Spec PyProof.Rows L2
/-! ### defs that hand back a list of their own -/
def EndL {S : Type} (Z : Wo) (lay : S → Led) (G : Hp) (Q : VK) (E : XK) : Rs S (List D) → Prop
  | .stuck => False
  | .ok ds s => ∀ p xs G' H', Same G G' → Wd G' ((p, .lst xs) :: lay s) H' → RpAll Z G' xs ds → Q (.ref p) H'
  | .ex c fs s => ∀ dx vs G' H', Same G G' → Wd G' (lay s) H' → G' dx = some (.xd ((Z.fn c).zip vs)) → (Z.fn c).length = vs.length → RpAll Z G' vs fs → E (.ref (Z.cl c)) (some dx) H'
def spL (Z : Wo) (m : (S : Type) → List D → MS S (List D)) : Sp := fun vs H Q E => ∃ (S : Type) (lay : S → Led) (G : Hp) (s : S) (ds : List D), Wd G (lay s) H ∧ RpAll Z G vs ds ∧ EndL Z lay G Q E (m S ds s)
theorem spL_len {Z : Wo} {m : (S : Type) → List D → MS S (List D)} {n : Nat} (hm : ∀ S ds, ds.length ≠ n → m S ds = stk) {vs : List V} {H : Hp} {Q : VK} {E : XK} (h : spL Z m vs H Q E) : vs.length = n := by
  obtain ⟨S, lay, G, s, ds, w, r, e⟩ := h
  by_cases hl : ds.length = n
  · rw [r.length, hl]
  · rw [hm S ds hl] at e
    exact e.elim
def spDL (Z : Wo) (m : List Int → List D → MS Hd (List D)) : Sp := fun vs H Q E => ∃ (p c : Addr) (cells : List Int) (L0 : Led) (G : Hp) (h : Hd) (vs' : List V) (ds : List D), vs = .ref p :: vs' ∧ hF c cells G ∧ Wd G ((p, hHO c h) :: L0) H ∧ RpAll Z G vs' ds ∧
  EndL Z (fun h => (p, hHO c h) :: L0) G Q E (m cells ds h)
theorem spDL_len {Z : Wo} {m : List Int → List D → MS Hd (List D)} {n : Nat} (hm : ∀ cs ds, ds.length + 1 ≠ n → m cs ds = stk) {vs : List V} {H : Hp} {Q : VK} {E : XK} (h : spDL Z m vs H Q E) : vs.length = n := by
  obtain ⟨p, c, cells, L0, G, hd, vs', ds, rfl, hf, w, r, e⟩ := h
  by_cases hl : ds.length + 1 = n
  · rw [List.length_cons, r.length, hl]
  · rw [hm cells ds hl] at e
    exact e.elim
section
variable {S : Type} {J : Jc S} {α β τ : Type} {ρ esc : Dm.Env} {σ : Sl} {G G' H : Hp} {L : Led}
theorem el_call {m : (S : Type) → List D → MS S (List D)} {dvs : List V} {dds : List D} {ta : TA} {ma : MS S (List D)} (h : EvA J ta ρ ma) (hd : ∀ G, RpAll J.Z G dvs dds := by intro _; repeat constructor) :
    EvL J (tCallSD (spL J.Z m) dvs (WE J.X) ta) ρ (bnd ma fun ds => m S (ds ++ dds)) := fun σ G s H L o Q q =>
  h.runL o q fun ds xs G1 s1 H1 e1 o1 r q1 => by
    refine ⟨S, fun s => L ++ J.lay s, G1, s1, ds ++ dds, o1.2, RpAll.append r (hd G1), ?_⟩
    cases e : m S (ds ++ dds) s1 with
    | stuck =>
      rw [e] at q1
      exact q1
    | ex c fs s2 =>
      rw [e] at q1
      exact fun dx vs G' H' sm w a b rr => q1 dx vs G' H' sm ⟨o1.1.mono sm, w⟩ a b rr
    | ok d s2 =>
      rw [e] at q1
      exact fun p ys G' H' sm w rr => q1 p ys G' H' sm ⟨o1.1.mono sm, w⟩ rr
theorem sv_retO {i : Nat} {ds : List D} (hi : ρ[i]? = some (.O ds)) : Sv J Ta esc (tRet (tVar i)) ρ (ret ds) Fin.rl := fun σ G s H L o E _ q => by
  obtain ⟨p, xs, L1, L2, h1, rfl, h3, h4, _⟩ := o.own hi
  refine ⟨.ref p, h1, q p xs G H (Same.refl _) (o.2.sub ?_) h4⟩
  have : [(p, HO.lst xs)].Sublist (L1 ++ (p, .lst xs) :: L2) := List.singleton_sublist.2 (by simp)
  exact this.append (List.Sublist.refl _)
theorem bodyL_ok {T : Ends → Prop} {t : TS} {m : MS S (List D)} {Q : VK} {X : XK} {s : S} (sv : Sv J Ta esc t ρ m Fin.rl) (o : Ok J.Z (J.lay s) ρ G σ L H) (hX : ∀ cls d σ H, X cls d H → J.X cls d σ H) (e : EndL J.Z J.lay G Q X (m s)) : t (ends Q) σ H := by
  refine sv σ G s H L o (ends Q) trivial ?_
  cases em : m s with
  | stuck =>
    rw [em] at e
    exact e
  | ex c fs s2 =>
    rw [em] at e
    exact fun σ' dx vs G' H' L' sm o' a b rr => hX _ _ _ _ (e dx vs G' H' sm o'.wd a b rr)
  | ok d s2 =>
    rw [em] at e
    exact e
theorem sv_ifRl {T : Ends → Prop} {tt : TT} {tu tw tz : TS} {mt : MS S Bool} {m1 m2 : MS S (List D)} (h : EvT J tt ρ mt) (w : Wk ρ esc) (h1 : Sv J Ta esc tu ρ m1 Fin.rl) (h2 : Sv J T esc (tSeq tw tz) ρ m2 Fin.rl) : Sv J T esc (tSeq (tIfS tt tu tw) tz) ρ (bnd mt fun b => if b = true then m1 else m2) Fin.rl := fun σ G s H L o E ht q =>
  h.runS o w q fun b c G1 s1 H1 e1 o1 hc q1 => by
    cases hc
    cases b with
    | true => exact h1 σ G1 s1 H1 L o1 { E with nx := tz E } trivial (by
        have q2 : Pss J esc G1 E Fin.rl (m1 s1) := q1
        cases e : m1 s1 with
        | stuck => rw [e] at q2; exact q2
        | ex c fs s' => rw [e] at q2; exact q2
        | ok a s' => rw [e] at q2; exact q2)
    | false => exact h2 σ G1 s1 H1 L o1 E ht q1
/-! while -/
def FU : Nat := 1000000
def whileN (c : α → MS S Bool) (f : α → MS S α) : Nat → α → MS S α
  | 0, _ => stk
  | n + 1, a => bnd (c a) fun b => if b = true then bnd (f a) (whileN c f n) else ret a
def whileF (c : α → MS S Bool) (f : α → MS S (Fl α α)) : Nat → α → MS S (Fr α)
  | 0, _ => stk
  | n + 1, a => bnd (c a) fun b => if b = true then bnd (f a) (fun r => match r with
    | .nx a => whileF c f n a
    | .ct a => whileF c f n a
    | .bk a => ret (.nx a)
    | .rt d => ret (.rt d)) else ret (.nx a)
theorem sv_whileN {tt : TT} {tb : TS} {c : α → MS S Bool} {f : α → MS S α} (n : Nat) (e : α → Dm.Env) (a0 : α) (hc : ∀ a, EvT J tt (e a) (c a)) (w : ∀ a, Wk (e a) esc) (hb : ∀ a, Sv J Ta esc tb (e a) (f a) (fun b => .nx (e b))) :
    Sv J Ta esc (tWhile tt tb) (e a0) (whileN c f n a0) (fun a => .nx (e a)) := fun σ G s H L o E _ q => by
  refine ⟨fun n σ H => ∃ a G1 s1 L1, Same G G1 ∧ Ok J.Z (J.lay s1) (e a) G1 σ L1 H ∧ Pss J esc G1 E (fun a => .nx (e a)) (whileN c f n a s1), ⟨n, a0, G, s, L, Same.refl _, o, q⟩, ?_⟩
  rintro n σ H ⟨a, G1, s1, L1, sm, o1, q1⟩
  cases n with
  | zero => exact q1.elim
  | succ n =>
    refine (hc a).runS o1 (w a) (show Pss J esc G1 E (fun a => .nx (e a)) (bnd (c a) (fun b => if b = true then bnd (f a) (whileN c f n) else ret a) s1) from q1) fun b k G2 s2 H2 e2 o2 hk q2 => ?_
    cases hk
    cases b with
    | false => exact q2 σ G2 H2 L1 (Same.refl _) o2
    | true =>
      rw [if_pos rfl]
      refine ⟨fun σ' H' => ∃ m, m < n + 1 ∧ ∃ a G1 s1 L1, Same G G1 ∧ Ok J.Z (J.lay s1) (e a) G1 σ' L1 H' ∧ Pss J esc G1 E (fun a => .nx (e a)) (whileN c f m a s1), fun σ' H' h => h, ?_⟩
      refine hb a σ G2 s2 H2 L1 o2 _ trivial (Pss.bind (E := E) (fin := fun a => .nx (e a)) (k := whileN c f n) q2 fun a s5 q5 => ?_)
      exact fun σ6 G6 H6 L6 sm6 o6 => ⟨n, Nat.lt_succ_self _, a, G6, s5, L6, (sm.trans e2).trans sm6, o6, Pss.mono sm6 q5⟩
theorem sv_whileF {tt : TT} {tb : TS} {c : α → MS S Bool} {f : α → MS S (Fl α α)} (n : Nat) (e : α → Dm.Env) (a0 : α) (hc : ∀ a, EvT J tt (e a) (c a)) (w : ∀ a, Wk (e a) esc) (hb : ∀ a, Sv J Ta esc tb (e a) (f a) (Fl.fin e e)) :
    Sv J Ta esc (tWhile tt tb) (e a0) (whileF c f n a0) (Fr.fin e) := fun σ G s H L o E _ q => by
  refine ⟨fun n σ H => ∃ a G1 s1 L1, Same G G1 ∧ Ok J.Z (J.lay s1) (e a) G1 σ L1 H ∧ Pss J esc G1 E (Fr.fin e) (whileF c f n a s1), ⟨n, a0, G, s, L, Same.refl _, o, q⟩, ?_⟩
  rintro n σ H ⟨a, G1, s1, L1, sm, o1, q1⟩
  cases n with
  | zero => exact q1.elim
  | succ n =>
    refine (hc a).runS o1 (w a) (show Pss J esc G1 E (Fr.fin e) (bnd (c a) (fun b => if b = true then bnd (f a) (fun r => match r with
      | .nx a => whileF c f n a
      | .ct a => whileF c f n a
      | .bk a => ret (.nx a)
      | .rt d => ret (.rt d)) else ret (.nx a)) s1) from q1) fun b k G2 s2 H2 e2 o2 hk q2 => ?_
    cases hk
    cases b with
    | false => exact q2 σ G2 H2 L1 (Same.refl _) o2
    | true =>
      rw [if_pos rfl]
      refine ⟨fun σ' H' => ∃ m, m < n + 1 ∧ ∃ a G1 s1 L1, Same G G1 ∧ Ok J.Z (J.lay s1) (e a) G1 σ' L1 H' ∧ Pss J esc G1 E (Fr.fin e) (whileF c f m a s1), fun σ' H' h => h, ?_⟩
      refine hb a σ G2 s2 H2 L1 o2 _ trivial (Pss.bind (E := E) (fin := Fr.fin e) q2 fun r s5 q5 => ?_)
      cases r with
      | nx a => exact fun σ6 G6 H6 L6 sm6 o6 => ⟨n, Nat.lt_succ_self _, a, G6, s5, L6, (sm.trans e2).trans sm6, o6, Pss.mono sm6 q5⟩
      | ct a => exact fun σ6 G6 H6 L6 sm6 o6 => ⟨n, Nat.lt_succ_self _, a, G6, s5, L6, (sm.trans e2).trans sm6, o6, Pss.mono sm6 q5⟩
      | bk a => exact fun σ6 G6 H6 L6 sm6 o6 => q5 σ6 G6 H6 L6 sm6 o6
      | rt d => exact fun v G6 H6 sm6 w6 r6 => q5 v G6 H6 sm6 w6 r6
/-! a loop that only breaks, what follows falls through -/
def frN (k : α → MS S β) : Fr α → MS S β
  | .nx a => k a
  | .rt _ => stk
theorem sv_frN {T : Ends → Prop} {t u : TS} {e : α → Dm.Env} {fin : β → Dm.Fin} {m : MS S (Fr α)} {k : α → MS S β} (h1 : Sv J Ta esc t ρ m (Fr.fin e)) (h2 : ∀ a, Sv J T esc u (e a) (k a) fin) : Sv J T esc (tSeq t u) ρ (bnd m (frN k)) fin := fun σ G s H L o E hT q =>
  h1 σ G s H L o { E with nx := u E } trivial (Pss.bind q fun a s' q1 => by
    cases a with
    | nx a => exact fun σ2 G2 H2 L2 e2 o2 => h2 a σ2 G2 s' H2 L2 o2 E hT (Pss.mono e2 q1)
    | rt d => exact q1.elim)
end
section
variable {J : Jc Hd} {ρ esc : Env} {σ : Sl} {G G' H : Hp} {L : Led} {p c : Addr} {cells : List Int} {i : Nat}
theorem el_callD {m : List Int → List D → MS Hd (List D)} {dvs : List V} {dds : List D} {ta : TA} {ma : MS Hd (List D)} (hJ : HandJ J p c) (hi : ρ[i]? = some (.A p (hF c cells))) (h : EvA J ta ρ ma) (hd : ∀ G, RpAll J.Z G dvs dds := by intro _; repeat constructor) :
    EvL J (tCallSD (spDL J.Z m) dvs (WE J.X) (tCons (tVar i) ta)) ρ (bnd ma fun ds => m cells (ds ++ dds)) := fun σ G s H L o Q q => by
  obtain ⟨L1, L2, el⟩ := hJ
  refine ⟨.ref p, (o.1.hand hi).1, h.runL o q fun ds xs G1 s1 H1 e1 o1 r q1 => ?_⟩
  have pm : ∀ h, ((p, hHO c h) :: (L ++ (L1 ++ L2))).Perm (L ++ J.lay h) := fun h => by
    rw [el h]
    have := (List.perm_middle (a := (p, hHO c h)) (l₁ := L ++ L1) (l₂ := L2)).symm
    rw [List.append_assoc, List.append_assoc] at this
    exact this
  refine ⟨p, c, cells, L ++ (L1 ++ L2), G1, s1, xs ++ dvs, ds ++ dds, rfl, (o1.1.hand hi).2, o1.2.perm (pm s1), RpAll.append r (hd G1), ?_⟩
  cases e : m cells (ds ++ dds) s1 with
  | stuck =>
    rw [e] at q1
    exact q1
  | ex k fs s2 =>
    rw [e] at q1
    exact fun dx vs G' H' sm w a b rr => q1 dx vs G' H' sm ⟨o1.1.mono sm, w.perm (pm s2).symm⟩ a b rr
  | ok d s2 =>
    rw [e] at q1
    exact fun x ys G' H' sm w rr => q1 x ys G' H' sm ⟨o1.1.mono sm, w.perm ((pm s2).symm.cons _)⟩ rr
end
end Dm

set_option Elab.async false
set_option linter.all false
set_option maxRecDepth 100000
set_option maxHeartbeats 4000000
namespace Dm
open PySem PySem.Spec PyProof.Rows L2
/-! ### sorted(list of ints), with repeats -/
def insJ (k : Int) : List Int → List Int
  | [] => [k]
  | x :: r => if k ≤ x then k :: x :: r else x :: insJ k r
def sortJ : List Int → List Int
  | [] => []
  | k :: r => insJ k (sortJ r)
theorem insJ_perm {k : Int} : ∀ l : List Int, (insJ k l).Perm (k :: l)
  | [] => List.Perm.refl _
  | x :: r => by
    unfold insJ
    split
    · exact List.Perm.refl _
    · exact ((insJ_perm r).cons x).trans (List.Perm.swap k x r)
theorem insJ_sorted {k : Int} : ∀ {l : List Int}, l.Pairwise (· ≤ ·) → (insJ k l).Pairwise (· ≤ ·)
  | [], _ => by simp [insJ]
  | x :: r, h => by
    unfold insJ
    rw [List.pairwise_cons] at h
    split
    · rename_i hk
      rw [List.pairwise_cons, List.pairwise_cons]
      refine ⟨fun y hy => ?_, h.1, h.2⟩
      rcases List.mem_cons.1 hy with q | q
      · rw [q]; exact hk
      · have := h.1 y q
        omega
    · rename_i hk
      rw [List.pairwise_cons]
      refine ⟨fun y hy => ?_, insJ_sorted h.2⟩
      rcases List.mem_cons.1 ((insJ_perm r).mem_iff.1 hy) with q | q
      · omega
      · exact h.1 y q
theorem sortJ_perm : ∀ l : List Int, (sortJ l).Perm l
  | [] => List.Perm.refl _
  | k :: r => (insJ_perm _).trans ((sortJ_perm r).cons k)
theorem sortJ_sorted : ∀ l : List Int, (sortJ l).Pairwise (· ≤ ·)
  | [] => List.Pairwise.nil
  | k :: r => insJ_sorted (sortJ_sorted r)
theorem sortJ_eq {l r : List Int} (p : r.Perm l) (s : r.Pairwise (· ≤ ·)) : r = sortJ l :=
  List.Perm.eq_of_pairwise (le := (· ≤ ·)) (fun a b _ _ h1 h2 => Int.le_antisymm h1 h2) s (sortJ_sorted l) (p.trans (sortJ_perm l).symm)
def oSorted (d : D) : Option (List D) := match d with
  | .lst ds => match intsD ds with
    | some ns => some ((sortJ ns).map D.int)
    | none => none
  | _ => none
section
variable {S : Type} {J : Jc S} {α β τ : Type} {ρ esc : Dm.Env} {σ : Sl} {G G' H : Hp} {L : Led}
theorem el_sorted {K : PySem.W.Frag} {te : TE} {m : MS S D} (h : EvX J te ρ m) : EvL J (tCB (rSortedI K) (tCons te tNil)) ρ (bnd m fun d => lft (oSorted d)) := fun σ G s H L o Q q =>
  h.runL o q fun d x G1 s1 H1 e1 o1 rx q1 => PstL.lft q1 fun es he q2 => by
    cases d with
    | lst ds =>
      unfold oSorted at he
      dsimp only at he
      cases e2 : intsD ds with
      | none => rw [e2] at he; cases he
      | some ns =>
        rw [e2] at he
        dsimp only at he
        cases he
        obtain ⟨a, vs, rfl, h1, r1⟩ := rX.lst o1 rx
        rw [intsD_some e2] at r1
        have ev : vs = ns.map V.int := ints_of ns r1
        subst ev
        refine ⟨a, ns, rfl, sq_l h1, fun ms p hp hs hm => ?_⟩
        rw [sortJ_eq hp hs]
        exact q2 p _ _ _ (Same.refl _) (o1.nw hm) (ints_rp _)
    | _ => cases he
/-! ### max(list of ints) -/
def mostI : Int → List Int → Int
  | m, [] => m
  | m, x :: r => mostI (if m < x then x else m) r
theorem mostI_le : ∀ (m : Int) (l : List Int), m ≤ mostI m l ∧ ∀ y ∈ l, y ≤ mostI m l
  | m, [] => ⟨Int.le_refl _, fun y h => by cases h⟩
  | m, x :: r => by
    have h := mostI_le (if m < x then x else m) r
    unfold mostI
    refine ⟨?_, fun y hy => ?_⟩
    · have := h.1
      split at this <;> split <;> first | omega | (rename_i a b; exact absurd a b) | (rename_i a b; exact absurd b a)
    · rcases List.mem_cons.1 hy with e | q
      · have := h.1
        subst e
        split at this <;> split <;> first | omega | (rename_i a b; exact absurd a b) | (rename_i a b; exact absurd b a)
      · exact h.2 y q
theorem mostI_mem : ∀ (m : Int) (l : List Int), mostI m l ∈ m :: l
  | m, [] => by simp [mostI]
  | m, x :: r => by
    have h := mostI_mem (if m < x then x else m) r
    unfold mostI
    rcases List.mem_cons.1 h with e | q
    · rw [e]
      split <;> simp
    · simp [q]
def oMaxL (d : D) : Option D := match d with
  | .lst ds => match intsD ds with
    | some (x :: r) => some (.int (mostI x r))
    | _ => none
  | _ => none
theorem o1_maxL {K : PySem.W.Frag} : Op1 J ρ (rMax K) oMaxL := fun σ G s H L x d z o rx hz Q q => by
  cases d with
  | lst ds =>
    unfold oMaxL at hz
    dsimp only at hz
    cases e : intsD ds with
    | none => rw [e] at hz; cases hz
    | some ns =>
      rw [e] at hz
      cases ns with
      | nil => cases hz
      | cons n r =>
        cases hz
        obtain ⟨a, vs, rfl, h1, r1⟩ := rX.lst o rx
        rw [intsD_some e] at r1
        rw [ints_of _ r1] at h1
        refine ⟨a, n :: r, rfl, sq_l h1, Nat.succ_pos _, fun m hm hle => ?_⟩
        have em : m = mostI n r := by
          have h2 := hle _ (mostI_mem n r)
          have h3 := mostI_le n r
          rcases List.mem_cons.1 hm with y | y
          · subst y
            have := h3.1
            omega
          · have := h3.2 m y
            omega
        rw [em]
        exact q _ G H (Same.refl _) o (.int _)
  | _ => cases hz
/-! ### x = L.pop(), x = L.pop(k), L an own list -/
def popL (ds : List D) : Option (D × List D) := match ds.getLast? with
  | some d => some (d, ds.dropLast)
  | none => none
theorem sv_popV {K : PySem.W.Frag} {i j : Nat} {ds : List D} (hi : ρ[i]? = some (.O ds)) (w : Wk ρ esc) :
    Sv J Ta esc (tAsg (tBM K "list" rPop (tVar i) tNil) (gName j)) ρ (lft (popL ds)) (fun r => .nx ((ρ.set i (.O r.2)).set j (.P r.1))) := fun σ G s H L o E _ q => by
  obtain ⟨p, xs, a1, a2, a3, a4⟩ := o.put hi
  refine ⟨.ref p, a1, .inl ⟨rfl, xs, sq_l a2⟩, Pss.lft q fun r he q3 => ?_⟩
  unfold popL at he
  cases e : ds.getLast? with
  | none => rw [e] at he; cases he
  | some d =>
    rw [e] at he
    cases he
    rw [List.getLast?_eq_getElem?] at e
    obtain ⟨v, c1, c2⟩ := a3.get e
    obtain ⟨L', o3⟩ := a4 xs.dropLast _ a3.dropLast
    obtain ⟨L2, o4⟩ := o3.set (i := j) c2
    exact ⟨p, xs, v, rfl, rfl, a2, by rw [a3.length]; exact c1, q3 _ G _ L2 (Same.refl _) o4⟩
end
section
variable {X : Cx} {K : PySem.W.Frag}
theorem cr_sortedIK (h : X.K = K) : CallR X (.builtin "sorted") (rSortedI K) := h ▸ cr_sortedI
theorem cr_maxK (h : X.K = K) (hc : X.calm = true) : CallR X (.builtin "max") (rMax K) := h ▸ cr_max hc
end
end Dm

set_option Elab.async false
set_option linter.all false
set_option maxRecDepth 100000
set_option maxHeartbeats 4000000
namespace Dm
open PySem PySem.Spec PyProof.Rows L2
/-! ### an own list is lent while an expression runs -/
mutual
def noL : D → Bool
  | .lst xs => noLs xs
  | .tup xs => noLs xs
  | .obj _ xs => noLs xs
  | .lnt _ => false
  | _ => true
def noLs : List D → Bool
  | [] => true
  | x :: xs => noL x && noLs xs
end
/-- what stands at p is forgotten -/
def lessH (G : Hp) (p : Addr) : Hp := fun b => if b = p then none else G b
theorem less_same {G : Hp} {p : Addr} : lessH G p p = none := if_pos rfl
theorem less_ne {G : Hp} {p b : Addr} (h : b ≠ p) : lessH G p b = G b := if_neg h
mutual
theorem Rp.less {Z : Wo} {G : Hp} {p : Addr} {o : Obj} {u : HO} (hp : G p = some (.frz o u)) : ∀ {v : V} {d : D}, Rp Z G v d → noL d = true → Rp Z (lessH G p) v d
  | _, _, .non, _ => .non
  | _, _, .bl b, _ => .bl b
  | _, _, .int i, _ => .int i
  | _, _, .str x, _ => .str x
  | _, _, .lst h r, n => .lst ((less_ne fun e => by rw [e, hp] at h; cases h).trans h) (RpAll.less hp r n)
  | _, _, .tup h r, n => .tup ((less_ne fun e => by rw [e, hp] at h; cases h).trans h) (RpAll.less hp r n)
  | _, _, .obj h l r, n => .obj ((less_ne fun e => by rw [e, hp] at h; cases h).trans h) l (RpAll.less hp r n)
  | _, _, .dct h, _ => .dct ((less_ne fun e => by rw [e, hp] at h; cases h).trans h)
  | _, _, .lnt _ _, n => by cases n
theorem RpAll.less {Z : Wo} {G : Hp} {p : Addr} {o : Obj} {u : HO} (hp : G p = some (.frz o u)) : ∀ {vs : List V} {ds : List D}, RpAll Z G vs ds → noLs ds = true → RpAll Z (lessH G p) vs ds
  | _, _, .nil, _ => .nil
  | _, _, .cons h r, n => by
    rw [noLs, Bool.and_eq_true] at n
    exact .cons (Rp.less hp h n.1) (RpAll.less hp r n.2)
end
section
variable {S : Type} {J : Jc S} {α β τ : Type} {ρ esc : Dm.Env} {σ : Sl} {G G' H : Hp} {L : Led}
def lendM (m : MS S D) : MS S D := bnd (nex m) fun d => if noL d = true then ret d else stk
theorem ev_lend {i : Nat} {ds : List D} {te : TE} {m : MS S D} (hi : ρ[i]? = some (.O ds)) (h : Ev J te (ρ.set i (.P (.lnt ds))) m) : Ev J (tLockE te) ρ (lendM m) := fun σ G s H L o Q q => by
  obtain ⟨c, w⟩ := o
  obtain ⟨p, xs, L1, L2, e, r, k⟩ := c.frz (i := i) (p := 0) (xs := []) hi
  subst e
  have w' : Wd G ((p, .lst xs) :: (L1 ++ L2 ++ J.lay s)) H := w.perm (by
    rw [List.append_assoc, List.append_assoc, List.cons_append]
    exact List.perm_middle.symm)
  obtain ⟨hp, gp⟩ := w'.own (p, .lst xs) List.mem_cons_self
  have hp : H p = some (.lst xs) := hp
  have gp : G p = none := gp
  refine ⟨p, .lst xs, hp, trivial, fun od => ?_⟩
  have s1 : Same G (upd G p (.frz od (.lst xs))) := same_new gp
  have nd := w'.nd
  rw [List.map_cons, List.nodup_cons] at nd
  have w1 : Wd (upd G p (.frz od (.lst xs))) (L1 ++ L2 ++ J.lay s) (upd H p (.frz od (.lst xs))) := by
    refine ⟨fun b x e => ?_, nd.2, fun y hy => ?_⟩
    · by_cases hb : b = p
      · subst hb
        rw [upd_same] at e ⊢
        exact e
      · rw [upd_ne hb] at e ⊢
        exact w'.same _ _ e
    · have hb : y.1 ≠ p := fun z => nd.1 (List.mem_map.2 ⟨y, hy, z⟩)
      rw [upd_ne hb, upd_ne hb]
      exact w'.own y (List.mem_cons_of_mem _ hy)
  have c1 := k _ (.lnt ds) s1 (.lnt upd_same (r.mono s1))
  refine h σ _ s _ (L1 ++ L2) ⟨c1, w1⟩ _ ?_
  have q : Pst J ρ σ (L1 ++ (p, .lst xs) :: L2) G (rP J) Q ((nex m s).go fun d => if noL d = true then ret d else stk) := q
  unfold nex at q
  cases em : m s with
  | stuck =>
    rw [em] at q
    exact q.elim
  | ex c fs s' =>
    rw [em] at q
    exact q.elim
  | ok d s' =>
    rw [em] at q
    have q : Pst J ρ σ (L1 ++ (p, .lst xs) :: L2) G (rP J) Q ((if noL d = true then ret d else stk : MS S D) s') := q
    by_cases hn : noL d = true
    case neg =>
      rw [if_neg hn] at q
      exact q.elim
    rw [if_pos hn] at q
    intro v G' H' sm o' rv
    have o' : Ok J.Z (J.lay s') (ρ.set i (.P (.lnt ds))) G' σ (L1 ++ L2) H' := o'
    have gp' : G' p = some (.frz od (.lst xs)) := sm _ _ upd_same
    have hp' : H' p = some (.frz od (.lst xs)) := o'.2.same _ _ gp'
    refine ⟨hp', q v (lessH G' p) (upd H' p (.lst xs)) (fun b x e => ?_) ⟨c.mono fun b x e => ?_, ?_⟩ (Rp.less gp' rv hn)⟩
    · have hb : b ≠ p := fun z => by rw [z, gp] at e; cases e
      rw [less_ne hb]
      exact sm _ _ (by rw [upd_ne hb]; exact e)
    · have hb : b ≠ p := fun z => by rw [z, gp] at e; cases e
      rw [less_ne hb]
      exact sm _ _ (by rw [upd_ne hb]; exact e)
    · have pn : p ∉ (L1 ++ L2 ++ J.lay s').map Prod.fst := fun z => by
        obtain ⟨y, hy, e⟩ := List.mem_map.1 z
        have := (o'.2.own y hy).2
        rw [e, gp'] at this
        cases this
      have w2 : Wd (lessH G' p) ((p, .lst xs) :: (L1 ++ L2 ++ J.lay s')) (upd H' p (.lst xs)) := by
        refine ⟨fun b x e => ?_, ?_, fun y hy => ?_⟩
        · have hb : b ≠ p := fun z => by rw [z, less_same] at e; cases e
          rw [less_ne hb] at e
          rw [upd_ne hb]
          exact o'.2.same _ _ e
        · rw [List.map_cons, List.nodup_cons]
          exact ⟨pn, o'.2.nd⟩
        · rcases List.mem_cons.1 hy with e | hy
          · subst e
            exact ⟨upd_same, less_same⟩
          · have hb : y.1 ≠ p := fun z => pn (List.mem_map.2 ⟨y, hy, z⟩)
            rw [upd_ne hb, less_ne hb]
            exact o'.2.own y hy
      exact w2.perm (by
        rw [List.append_assoc, List.append_assoc, List.cons_append]
        exact List.perm_middle)
end
end Dm

set_option Elab.async false
set_option linter.all false
set_option maxRecDepth 100000
set_option maxHeartbeats 2000000
namespace Dm
open PySem PySem.Spec PyProof.Rows L2
/-! ### rows of places: lists of Nat, read with 0 beyond the end -/
abbrev gd (l : List Nat) (i : Nat) : Nat := l.getD i 0
def natD : D → Option Nat
  | .int k => if 0 ≤ k then some k.toNat else none
  | _ => none
theorem natD_some {d : D} {n : Nat} (h : natD d = some n) : d = .int (n : Int) := by
  cases d with
  | int k =>
    have h : (if 0 ≤ k then some k.toNat else none) = some n := h
    obtain ⟨h0, rfl⟩ := ite_some h
    rw [Int.toNat_of_nonneg h0]
  | _ => cases h
theorem natD_nat (n : Nat) : natD (.int (n : Int)) = some n := by
  show (if 0 ≤ (n : Int) then some (n : Int).toNat else none) = _
  rw [if_pos (by omega), Int.toNat_natCast]
def natsD : List D → Option (List Nat)
  | [] => some []
  | d :: ds => match natD d, natsD ds with
    | some n, some l => some (n :: l)
    | _, _ => none
theorem natsD_some : ∀ {ds : List D} {l : List Nat}, natsD ds = some l → ds = nats l
  | [], l, h => by cases h; rfl
  | d :: ds, l, h => by
    unfold natsD at h
    cases e1 : natD d with
    | none => rw [e1] at h; cases h
    | some n =>
      cases e2 : natsD ds with
      | none => rw [e1, e2] at h; cases h
      | some m =>
        rw [e1, e2] at h
        cases h
        rw [natD_some e1, natsD_some e2]
        rfl
theorem natsD_nats : ∀ l : List Nat, natsD (nats l) = some l
  | [] => rfl
  | n :: l => by
    show (match natD (.int (n : Int)), natsD (nats l) with
      | some n, some l => some (n :: l)
      | _, _ => none) = _
    rw [natD_nat, natsD_nats l]
theorem nats_len (l : List Nat) : (nats l).length = l.length := by simp [nats]
theorem nats_inj {a b : List Nat} (h : nats a = nats b) : a = b := by
  have := congrArg natsD h
  rw [natsD_nats, natsD_nats] at this
  exact Option.some.inj this
theorem nats_get {l : List Nat} {i : Nat} (h : i < l.length) : (nats l)[i]? = some (.int ((gd l i : Nat) : Int)) := by
  unfold nats gd
  rw [List.getElem?_map, List.getElem?_eq_getElem h, List.getD_eq_getElem?_getD, List.getElem?_eq_getElem h]
  rfl
theorem ixI {d : D} {xs : List D} {i : Nat} {x : D} (hd : items d = some xs) (h : xs[i]? = some x) : oIx d (.int (i : Int)) = some x := by
  cases d <;> first | (cases hd; done) | (cases hd; exact L2.atI_nat h)
theorem ixN' {d : D} {l : List Nat} {i : Nat} (hd : items d = some (nats l)) (h : i < l.length) : oIx d (.int (i : Int)) = some (.int ((gd l i : Nat) : Int)) := ixI hd (nats_get h)
/-! rows of numbers -/
abbrev gi (l : List Int) (i : Nat) : Int := l.getD i 0
theorem ixZ {d : D} {l : List Int} {i : Nat} (hd : items d = some (l.map D.int)) (h : i < l.length) : oIx d (.int (i : Int)) = some (.int (gi l i)) := by
  refine ixI hd ?_
  unfold gi
  rw [List.getElem?_map, List.getElem?_eq_getElem h, List.getD_eq_getElem?_getD, List.getElem?_eq_getElem h]
  rfl
theorem oEq_nat (i j : Nat) : oEq (.int (i : Int)) (.int (j : Int)) = some (.bl (decide (i = j))) := by
  rw [oEq_int]
  congr 2
  exact decide_eq_decide.2 ⟨fun h => by omega, fun h => by omega⟩
theorem oNe_nat (i j : Nat) : oNe (.int (i : Int)) (.int (j : Int)) = some (.bl (!decide (i = j))) := by
  rw [oNe_int]
  congr 3
  exact decide_eq_decide.2 ⟨fun h => by omega, fun h => by omega⟩
/-- the items of an enumeration -/
theorem numb_un2I : ∀ (xs : List D) (n : Nat) (f : Nat → D), (∀ i, i < xs.length → xs[i]? = some (f (n + i))) → (numb n xs).map un2 = (List.range' n xs.length).map fun (i : Nat) => some (D.int (i : Int), f i)
  | [], _, _, _ => rfl
  | x :: xs, n, f, h => by
    have h0 := h 0 (by simp)
    have ih := numb_un2I xs (n + 1) f fun i hi => by
      have := h (i + 1) (by simp; omega)
      rw [show n + 1 + i = n + (i + 1) by omega]
      simpa using this
    show un2 (.tup [.int (n : Int), x]) :: (numb (n + 1) xs).map un2 = _
    rw [ih, List.length_cons, List.range'_succ, List.map_cons]
    congr 1
    have : x = f n := by simpa using h0
    rw [this]
    rfl
/-- a comprehension over an enumeration -/
theorem lc_en {S : Type} {c : D × D → MS S Bool} {f : D × D → MS S D} {xs : List D} {v : Nat → D} {p : Nat → Bool} {g : Nat → D} (hv : ∀ i, i < xs.length → xs[i]? = some (v i)) (hc : ∀ i, i < xs.length → c (.int (i : Int), v i) = ret (p i)) (hf : ∀ i, i < xs.length → p i = true → f (.int (i : Int), v i) = ret (g i)) :
    lcM un2 c f (numb 0 xs) = ret (((List.range xs.length).filter p).map g) := by
  refine lcM_retI (e := fun (i : Nat) => (D.int (i : Int), v i)) ?_ (fun t ht => hc t (List.mem_range.1 ht)) (fun t ht => hf t (List.mem_range.1 ht))
  rw [numb_un2I xs 0 v (fun i hi => by rw [Nat.zero_add]; exact hv i hi), List.range_eq_range']
theorem eqD_tupN (a b : List Nat) : eqD (.tup (nats a)) (.tup (nats b)) = some (decide (a = b)) := by
  have h := eqD_tup (a.map fun (n : Nat) => (n : Int)) (b.map fun (n : Nat) => (n : Int))
  rw [List.map_map, List.map_map] at h
  refine h.trans ?_
  congr 1
  refine decide_eq_decide.2 ⟨fun h => ?_, fun h => by rw [h]⟩
  have inj : Function.Injective (fun (n : Nat) => (n : Int)) := fun x y e => Int.ofNat.inj e
  exact (List.map_inj_right (fun x y e => inj e)).1 h
theorem bols_map (p : Nat → Bool) : ∀ l : List Nat, bolsD (l.map fun i => .bl (p i)) = some (l.map p)
  | [] => rfl
  | n :: l => by
    show (bolsD (l.map fun i => .bl (p i))).map (p n :: ·) = _
    rw [bols_map p l]
    rfl
theorem oAll_map (p : Nat → Bool) (l : List Nat) : oAll (.lst (l.map fun i => .bl (p i))) = some (.bl (l.all p)) := by
  show (bolsD (l.map fun i => .bl (p i))).map (fun bs => D.bl (bs.all id)) = _
  rw [bols_map]
  show some (D.bl ((l.map p).all id)) = _
  congr 2
  rw [List.all_map]
  rfl
theorem filter_yes {α : Type} (l : List α) : l.filter (fun _ => true) = l := List.filter_eq_self.2 fun _ _ => rfl
/-- the least of a row that is not empty -/
def least : List Nat → Nat
  | [] => 0
  | x :: r => r.foldl min x
theorem leastI_nat : ∀ (r : List Nat) (x : Nat), leastI (x : Int) (r.map fun (n : Nat) => (n : Int)) = ((r.foldl min x : Nat) : Int)
  | [], _ => rfl
  | y :: r, x => by
    show leastI (if (y : Int) < (x : Int) then (y : Int) else (x : Int)) (r.map _) = _
    rw [min_nat x y, leastI_nat r (min x y)]
    rfl
theorem intsD_nats : ∀ l : List Nat, intsD (nats l) = some (l.map fun (n : Nat) => (n : Int))
  | [] => rfl
  | n :: l => by
    show (intsD (nats l)).map ((n : Int) :: ·) = _
    rw [intsD_nats l]
    rfl
theorem oMinL_nats {l : List Nat} (h : l ≠ []) : oMinL (.lst (nats l)) = some (.int ((least l : Nat) : Int)) := by
  cases l with
  | nil => exact absurd rfl h
  | cons x r =>
    simp only [oMinL, intsD_nats, List.map_cons, leastI_nat]
    rfl
theorem oIn_nats {i : Nat} {l : List Nat} {d : D} (hd : items d = some (nats l)) : oIn (.int (i : Int)) d = some (.bl (decide (i ∈ l))) := by
  have e : nats l = (l.map fun (n : Nat) => (n : Int)).map D.int := by simp [nats]
  rw [e] at hd
  rw [oIn_ints hd]
  congr 2
  refine decide_eq_decide.2 ⟨fun h => ?_, fun h => List.mem_map_of_mem h⟩
  obtain ⟨j, hj, e⟩ := List.mem_map.1 h
  have : j = i := by omega
  rw [← this]
  exact hj
theorem oNin_nats {i : Nat} {l : List Nat} {d : D} (hd : items d = some (nats l)) : oNin (.int (i : Int)) d = some (.bl (!decide (i ∈ l))) := by
  have h := oIn_nats (i := i) hd
  unfold oIn at h
  unfold oNin
  cases e : memD (.int (i : Int)) d with
  | none => rw [e] at h; cases h
  | some b =>
    rw [e] at h
    have : D.bl b = .bl (decide (i ∈ l)) := Option.some.inj h
    cases this
    rfl
/-! ### partings -/
/-- the leads of a parting: each stands at its own place, and none comes behind its mark -/
def prtL (l : List Nat) : Bool := (List.range l.length).all fun i => decide (gd l i ≤ i) && decide (gd l (gd l i) = gd l i)
def prtD (d : D) : Option (List Nat) := match items d with
  | some xs => match natsD xs with
    | some l => if 1 ≤ l.length ∧ l.length ≤ 4 ∧ prtL l = true then some l else none
    | none => none
  | none => none
theorem prtD_some {d : D} {l : List Nat} (h : prtD d = some l) : items d = some (nats l) ∧ 1 ≤ l.length ∧ l.length ≤ 4 ∧ prtL l = true := by
  unfold prtD at h
  cases e : items d with
  | none => rw [e] at h; cases h
  | some xs =>
    rw [e] at h
    dsimp only at h
    cases e2 : natsD xs with
    | none => rw [e2] at h; cases h
    | some m =>
      rw [e2] at h
      obtain ⟨q, rfl⟩ := ite_some h
      rw [natsD_some e2]
      exact ⟨rfl, q⟩
theorem prtD_of {d : D} {l : List Nat} (h : items d = some (nats l)) (h1 : 1 ≤ l.length) (h4 : l.length ≤ 4) (hp : prtL l = true) : prtD d = some l := by
  unfold prtD
  rw [h]
  dsimp only
  rw [natsD_nats]
  exact if_pos ⟨h1, h4, hp⟩
theorem prtL_at {l : List Nat} (h : prtL l = true) {i : Nat} (hi : i < l.length) : gd l i ≤ i ∧ gd l (gd l i) = gd l i := by
  have := List.all_eq_true.1 h i (List.mem_range.2 hi)
  rw [Bool.and_eq_true] at this
  exact ⟨of_decide_eq_true this.1, of_decide_eq_true this.2⟩
def finB (b a : List Nat) : Bool := (List.range b.length).all fun i => decide (gd a i = gd a (gd b i))
def mjL (b : List Nat) (m : Nat) (a : List Nat) : List Nat := (List.range a.length).filter fun i => decide (gd a i = gd a m) && !decide (gd b i = gd b m)
def jlL (b ch : List Nat) : List Nat := (List.range b.length).map fun i => if decide (gd b i ∈ ch.map (gd b)) = true then least (ch.map (gd b)) else gd b i
def oneB (l : List Nat) (cs : List Int) : Bool := (List.range l.length).all fun i => decide (gi cs i = gi cs (gd l i))
def shL (cs : List Int) (a : List Nat) (m : Nat) (c : Int) : List Int := (List.range cs.length).map fun i => if decide (gd a i = gd a m) = true then c else gi cs i
def mayB (b : List Nat) (cs : List Int) (m : Nat) (c : Int) (a : List Nat) : Bool :=
  !(!(mjL b m a).isEmpty && decide (gi cs m = c)) && ((mjL b m a).all fun i => decide (gi cs i = c)) && decide (jlL b (mjL b m a ++ [m]) = a)
end Dm
namespace Dm
theorem items_tup_ {ds : List D} : items (.tup ds) = some ds := rfl
theorem items_lst_ {ds : List D} : items (.lst ds) = some ds := rfl
end Dm
namespace Dm
inductive All2 {α β : Type} (R : α → β → Prop) : List α → List β → Prop
  | nil : All2 R [] []
  | cons {a : α} {b : β} {as : List α} {bs : List β} : R a b → All2 R as bs → All2 R (a :: as) (b :: bs)
theorem forF_ct {S α τ : Type} {un : D → Option τ} {f : τ → α → MS S (Fl α α)} {d : D} {ds : List D} {t : τ} {a b : α} (hu : un d = some t) (h : f t a = ret (.ct b)) : forF un f (d :: ds) a = forF un f ds b := by
  conv => lhs; unfold forF
  rw [hu, lft_some, bnd_ret, h, bnd_ret]
theorem forF_rse {S α τ : Type} {un : D → Option τ} {f : τ → α → MS S (Fl α α)} {d : D} {ds : List D} {t : τ} {a : α} {c : Nat} {fs : List D} (hu : un d = some t) (h : f t a = rse c fs) : forF un f (d :: ds) a = rse c fs := by
  conv => lhs; unfold forF
  rw [hu, lft_some, bnd_ret, h, bnd_rse]
end Dm
namespace Dm
open PySem PySem.Spec PyProof.Rows L2
theorem ix_last (xs : List D) (v : D) : oIx (.lst (xs ++ [v])) (.int (-1)) = some v := L2.atI_last xs v
theorem neg_one : oNeg (.int 1) = some (.int (-1)) := rfl
/-- a set comprehension over places, without the hand -/
theorem scM_nats {S : Type} {f : D → MS S D} {g : Nat → Int} : ∀ {l : List Nat} {acc : List Int}, (∀ i ∈ l, f (.int (i : Int)) = ret (.int (g i))) → acc.length + l.length < 64 → scM un1 (fun _ => ret true) f acc (nats l) = ret ((l.map g).reverse ++ acc)
  | [], acc, _, hl => by
    show (if acc.length < 64 then ret acc else stk) = _
    rw [if_pos (by simpa using hl)]
    rfl
  | n :: l, acc, h, hl => by
    rw [List.length_cons] at hl
    show bnd (lft (un1 (.int (n : Int)))) (fun t => bnd (nex (ret true)) fun b => if b = true then bnd (nex (f t)) fun y => bnd (lft (intD y)) fun k => if acc.length < 63 then scM un1 (fun _ => ret true) f (k :: acc) (nats l) else stk else scM un1 (fun _ => ret true) f acc (nats l)) = _
    rw [show un1 (.int (n : Int)) = some (.int (n : Int)) from rfl, lft_some, bnd_ret, nex_ret, bnd_ret, if_pos rfl, h n (by simp), nex_ret, bnd_ret, show intD (.int (g n)) = some (g n) from rfl, lft_some, bnd_ret, if_pos (by omega), scM_nats (fun i hi => h i (by simp [hi])) (by rw [List.length_cons]; omega)]
    simp
theorem forN_cons {S α τ : Type} {un : D → Option τ} {f : τ → α → MS S α} {d : D} {ds : List D} {t : τ} {a b : α} (hu : un d = some t) (h : f t a = ret b) : forN un f (d :: ds) a = forN un f ds b := by
  conv => lhs; unfold forN
  rw [hu, lft_some, bnd_ret, h, bnd_ret]
end Dm
namespace Dm
open PySem PySem.Spec PyProof.Rows L2
/-- the first item for which w, which knows its place, says something -/
def fstN {β : Type} (w : Nat → D → Option β) : Nat → List D → Option (Nat × β)
  | _, [] => none
  | n, d :: ds => match w n d with
    | some x => some (n, x)
    | none => fstN w (n + 1) ds
theorem forF_hitN {S β : Type} {w : Nat → D → Option β} {g : Nat → β → D} {f : D × D → Unit → MS S (Fl Unit Unit)} : ∀ {ds : List D} {n : Nat}, (∀ n, ∀ d ∈ ds, f (.int (n : Nat), d) () = ret (hitL (g n) (w n d))) → forF un2 f (numb n ds) () = ret (hitF g (fstN w n ds))
  | [], _, _ => rfl
  | d :: ds, n, h => by
    show bnd (lft (un2 (.tup [.int (n : Int), d]))) (fun t => bnd (f t ()) _) = _
    rw [show un2 (.tup [.int (n : Int), d]) = some (.int (n : Int), d) from rfl, lft_some, bnd_ret, h n d (by simp)]
    unfold fstN
    cases hw : w n d with
    | none => exact forF_hitN fun n d hd => h n d (by simp [hd])
    | some x => rfl
theorem fstN_none {β : Type} {w : Nat → D → Option β} : ∀ {ds : List D} {n : Nat}, fstN w n ds = none ↔ ∀ i d, ds[i]? = some d → w (n + i) d = none
  | [], _ => by simp [fstN]
  | d :: ds, n => by
    unfold fstN
    cases hw : w n d with
    | some x =>
      constructor
      · intro h; cases h
      · intro h
        have := h 0 d rfl
        rw [Nat.add_zero, hw] at this
        cases this
    | none =>
      dsimp only
      rw [fstN_none (ds := ds) (n := n + 1)]
      constructor
      · intro h i x hx
        cases i with
        | zero => cases hx; exact hw
        | succ i =>
          have := h i x (by simpa using hx)
          rw [show n + (i + 1) = n + 1 + i by omega]
          exact this
      · intro h i x hx
        have := h (i + 1) x (by simpa using hx)
        rw [show n + 1 + i = n + (i + 1) by omega]
        exact this
/-- a search over places: the same answer wherever it is met -/
theorem forF_allN {S : Type} {f : D → Unit → MS S (Fl Unit Unit)} {X : D} {p : Nat → Bool} : ∀ {l : List Nat}, (∀ i ∈ l, f (.int (i : Int)) () = ret (if p i = true then .nx () else .rt X)) → forF un1 f (nats l) () = ret (if l.all p = true then .nx () else .rt X)
  | [], _ => rfl
  | i :: l, h => by
    have hi := h i (by simp)
    have u : un1 (.int (i : Int)) = some (.int (i : Int)) := rfl
    show forF un1 f (.int (i : Int) :: nats l) () = _
    cases hp : p i with
    | true =>
      rw [hp, if_pos rfl] at hi
      rw [forF_nx u hi, forF_allN fun j hj => h j (by simp [hj])]
      simp [hp]
    | false =>
      rw [hp, if_neg Bool.false_ne_true] at hi
      rw [forF_rt u hi]
      simp [hp]
theorem rgD_nats (n : Nat) : rgD 0 n = nats (List.range n) := by
  unfold rgD nats
  refine List.map_congr_left fun i _ => ?_
  rw [Int.zero_add]
theorem lc_nats {S : Type} {c : D → MS S Bool} {f : D → MS S D} {l : List Nat} {p : Nat → Bool} {g : Nat → D} (hc : ∀ i ∈ l, c (.int (i : Int)) = ret (p i)) (hf : ∀ i ∈ l, p i = true → f (.int (i : Int)) = ret (g i)) : lcM un1 c f (nats l) = ret ((l.filter p).map g) := by
  refine lcM_retI (e := fun (i : Nat) => D.int (i : Int)) ?_ hc hf
  unfold nats
  rw [List.map_map]
  rfl
theorem eqD_lstN (a b : List Nat) : eqD (.lst (nats a)) (.lst (nats b)) = some (decide (a = b)) := by
  have h := eqD_lst (a.map fun (n : Nat) => (n : Int)) (b.map fun (n : Nat) => (n : Int))
  rw [List.map_map, List.map_map] at h
  refine h.trans ?_
  congr 1
  refine decide_eq_decide.2 ⟨fun h => ?_, fun h => by rw [h]⟩
  exact (List.map_inj_right (fun x y e => Int.ofNat.inj e)).1 h
/-- all rows of length n with entries below k -/
def rowsN (k : Nat) : Nat → List (List Nat)
  | 0 => [[]]
  | n + 1 => (List.range k).flatMap fun x => (rowsN k n).map (x :: ·)
theorem mem_rowsN {k : Nat} : ∀ {l : List Nat}, (∀ x ∈ l, x < k) → l ∈ rowsN k l.length
  | [], _ => by simp [rowsN]
  | x :: l, h => by
    rw [List.length_cons, rowsN, List.mem_flatMap]
    exact ⟨x, List.mem_range.2 (h x (by simp)), List.mem_map.2 ⟨l, mem_rowsN fun y hy => h y (by simp [hy]), rfl⟩⟩
def parts (n : Nat) : List (List Nat) := (rowsN n n).filter prtL
theorem mem_parts {l : List Nat} (h : prtL l = true) : l ∈ parts l.length := List.mem_filter.2 ⟨mem_rowsN fun x hx => by
  obtain ⟨i, hi, e⟩ := List.getElem_of_mem hx
  have := (prtL_at h hi).1
  unfold gd at this
  rw [List.getD_eq_getElem?_getD, List.getElem?_eq_getElem hi, e] at this
  have : x ≤ i := this
  omega, h⟩
def bools : Nat → List (List Bool)
  | 0 => [[]]
  | n + 1 => (bools n).flatMap fun l => [true :: l, false :: l]
theorem mem_bools : ∀ l : List Bool, l ∈ bools l.length
  | [] => by simp [bools]
  | b :: l => by
    rw [List.length_cons, bools, List.mem_flatMap]
    exact ⟨l, mem_bools l, by cases b <;> simp⟩
/-! the program's and the law's word, by what is known of the colours -/
def mayE (b : List Nat) (e : List Bool) (m : Nat) (a : List Nat) : Bool :=
  !(!(mjL b m a).isEmpty && e.getD m false) && ((mjL b m a).all fun i => e.getD i false) && decide (jlL b (mjL b m a ++ [m]) = a)
def lawE (b : List Nat) (e : List Bool) (m : Nat) (a : List Nat) : Bool := (List.range b.length).all fun i =>
  !(decide (gd a i = gd a m) && !decide (gd b i = gd b m) && (!e.getD i false || e.getD m false)) && !(!decide (gd a i = gd a m) && !((List.range b.length).filter fun k => decide (gd a k = gd a i) && !decide (gd b k = gd b i)).isEmpty)
def chkWord (n : Nat) : Bool := (parts n).all fun b => (parts n).all fun a => !finB b a || ((List.range n).all fun m => (bools n).all fun e => mayE b e m a == lawE b e m a)
theorem chkWord_ok : ∀ n, n ≤ 4 → chkWord n = true := by
  intro n hn
  have : n = 0 ∨ n = 1 ∨ n = 2 ∨ n = 3 ∨ n = 4 := by omega
  rcases this with rfl | rfl | rfl | rfl | rfl <;> decide +kernel
theorem may_law {b a : List Nat} {e : List Bool} {m : Nat} (hb : prtL b = true) (ha : prtL a = true) (hl : b.length = a.length) (h4 : a.length ≤ 4) (he : e.length = a.length) (hm : m < a.length) (hf : finB b a = true) : mayE b e m a = lawE b e m a := by
  have h := chkWord_ok a.length h4
  have h1 := List.all_eq_true.1 h b (hl ▸ mem_parts hb)
  have h2 := List.all_eq_true.1 h1 a (mem_parts ha)
  rw [hf, Bool.not_true, Bool.false_or] at h2
  have h3 := List.all_eq_true.1 h2 m (List.mem_range.2 hm)
  have h5 := List.all_eq_true.1 h3 e (he ▸ mem_bools e)
  exact eq_of_beq h5
end Dm
namespace Dm
theorem all_memc {α : Type} {p q : α → Bool} : ∀ {l : List α}, (∀ x ∈ l, p x = q x) → l.all p = l.all q
  | [], _ => rfl
  | x :: l, h => by rw [List.all_cons, List.all_cons, h x (by simp), all_memc fun y hy => h y (by simp [hy])]
end Dm

set_option Elab.async false
set_option linter.all false
set_option maxRecDepth 100000
set_option maxHeartbeats 2000000
namespace Dm
open PySem PySem.Spec PyProof.Rows L2
/-! ### a step by the rule -/
def nl (b lot : List Nat) : List Nat := (List.range b.length).map fun i => if decide (gd b i ∈ lot) = true then least lot else gd b i
def sel (s : List Bool) (n : Nat) : List Nat := (List.range n).filter fun i => s.getD i false
def chkRule (n : Nat) : Bool := (parts n).all fun b => (bools n).all fun e => !((List.range n).all fun i => e.getD i false == e.getD (gd b i) false) || ((List.range n).all fun m => (bools n).all fun s =>
  !((List.range n).all fun i => !s.getD i false || (decide (gd b i = i) && e.getD i false)) || (e.getD m false && !(sel s n).isEmpty) ||
    (let a := nl b (gd b m :: sel s n); prtL a && decide (gd a m = least (gd b m :: sel s n)) && finB b a && mayE b e m a && ((List.range n).all fun i => decide (gd a i = gd a m) || decide (gd a i = gd b i))))
theorem chkRule_ok : ∀ n, n ≤ 4 → chkRule n = true := by
  intro n hn
  have : n = 0 ∨ n = 1 ∨ n = 2 ∨ n = 3 ∨ n = 4 := by omega
  rcases this with rfl | rfl | rfl | rfl | rfl <;> decide +kernel
/-- what a step by the rule is -/
structure Ruled (b : List Nat) (e : List Bool) (m : Nat) (lot : List Nat) (a : List Nat) : Prop where
  prt : prtL a = true
  low : gd a m = least lot
  fin : finB b a = true
  may : mayE b e m a = true
  old : ∀ i, i < b.length → gd a i = gd a m ∨ gd a i = gd b i
theorem ruled {b : List Nat} {e s : List Bool} {m : Nat} (hb : prtL b = true) (h4 : b.length ≤ 4) (he : e.length = b.length) (hs : s.length = b.length) (hm : m < b.length) (h1 : ∀ i, i < b.length → e.getD i false = e.getD (gd b i) false)
    (h2 : ∀ i, i < b.length → s.getD i false = true → gd b i = i ∧ e.getD i false = true) (h3 : e.getD m false = true → sel s b.length = []) : Ruled b e m (gd b m :: sel s b.length) (nl b (gd b m :: sel s b.length)) := by
  have h := chkRule_ok b.length h4
  have q1 := List.all_eq_true.1 h b (mem_parts hb)
  have q2 := List.all_eq_true.1 q1 e (he ▸ mem_bools e)
  rw [show ((List.range b.length).all fun i => e.getD i false == e.getD (gd b i) false) = true from List.all_eq_true.2 fun i hi => by rw [h1 i (List.mem_range.1 hi)]; exact beq_self_eq_true _, Bool.not_true, Bool.false_or] at q2
  have q3 := List.all_eq_true.1 q2 m (List.mem_range.2 hm)
  have q4 := List.all_eq_true.1 q3 s (hs ▸ mem_bools s)
  rw [show ((List.range b.length).all fun i => !s.getD i false || (decide (gd b i = i) && e.getD i false)) = true from List.all_eq_true.2 fun i hi => by
    cases q : s.getD i false with
    | false => rfl
    | true =>
      obtain ⟨g1, g2⟩ := h2 i (List.mem_range.1 hi) q
      rw [decide_eq_true g1, g2]
      rfl, Bool.not_true, Bool.false_or] at q4
  rw [show (e.getD m false && !(sel s b.length).isEmpty) = false from by
    cases q : e.getD m false with
    | false => rfl
    | true => rw [h3 q]; rfl, Bool.false_or] at q4
  simp only [Bool.and_eq_true] at q4
  obtain ⟨⟨⟨⟨g1, g2⟩, g3⟩, g4⟩, g5⟩ := q4
  refine ⟨g1, of_decide_eq_true g2, g3, g4, fun i hi => ?_⟩
  have := List.all_eq_true.1 g5 i (List.mem_range.2 hi)
  rw [Bool.or_eq_true] at this
  exact this.imp of_decide_eq_true of_decide_eq_true
/-- all partings, in the law's order -/
def allN : Nat → List (List Nat)
  | 0 => [[]]
  | n + 1 => (allN n).flatMap fun r => (((List.range n).filter fun l => decide (gd r l = l)).map fun l => r ++ [l]) ++ [r ++ [n]]
theorem nats_nl {b lot : List Nat} {n : Nat} (hn : b.length = n) : nats (nl b lot) = (List.range n).map fun (i : Nat) => D.int (((if decide (gd b i ∈ lot) = true then least lot else gd b i : Nat)) : Int) := by
  unfold nl nats
  rw [List.map_map, hn]
  rfl
theorem tk_of {α : Type} {cells : List Int} {m : MS Hd α} {a : α} {P : α → Prop} (h : m = ret a) (p : P a) : Tk cells m P := h ▸ tk_ret p
/-- a loop over a list of data, by what is left of it -/
theorem tk_forRest {α τ : Type} {cells : List Int} {un : D → Option τ} {f : τ → α → MS Hd α} (Q : List D → α → Prop) {R : α → Prop} (hR : ∀ a, Q [] a → R a) : ∀ {ds : List D} {a : α}, Q ds a → (∀ d ds a, Q (d :: ds) a → ∃ t, un d = some t ∧ Tk cells (f t a) (Q ds)) → Tk cells (forN un f ds a) R
  | [], a, h, _ => tk_ret (hR a h)
  | d :: ds, a, h, hf => by
    obtain ⟨t, e, ht⟩ := hf d ds a h
    unfold forN
    rw [e, lft_some, bnd_ret]
    exact tk_bnd ht fun b hb => tk_forRest Q hR hb hf
end Dm

set_option Elab.async false
set_option linter.all false
set_option maxRecDepth 100000
set_option maxHeartbeats 2000000
namespace Dm
open PySem PySem.Spec PyProof.Rows L2
/-! ### ties of a picture -/
/-- the lesser first -/
def nrm (p : IP) : IP := if p.1 ≤ p.2 then p else (p.2, p.1)
/-- ties that stand as a picture holds them: below n, the lesser first -/
def tie1 (n : Nat) (p : IP) : Prop := 0 ≤ p.1 ∧ p.1 < p.2 ∧ p.2 < (n : Int)
/-- ties as they may be given -/
def tieG (n : Nat) (p : IP) : Prop := 0 ≤ p.1 ∧ p.1 < (n : Int) ∧ 0 ≤ p.2 ∧ p.2 < (n : Int) ∧ p.1 ≠ p.2
theorem tie1_nrm {n : Nat} {p : IP} (h : tieG n p) : tie1 n (nrm p) := by
  unfold tieG at h
  unfold tie1 nrm
  split
  · omega
  · show 0 ≤ p.2 ∧ p.2 < p.1 ∧ p.1 < (n : Int)
    omega
theorem nrm_of {n : Nat} {p : IP} (h : tie1 n p) : nrm p = p := by
  unfold tie1 at h
  unfold nrm
  rw [if_pos (by omega)]
theorem tieG_of {n : Nat} {p : IP} (h : tie1 n p) : tieG n p := by
  unfold tie1 at h
  unfold tieG
  omega
/-- the ties of the picture -/
def tiesP (ps : List IP) : List IP := sortP (ps.map nrm)
theorem tiesP_mem {n : Nat} {ps : List IP} (h : ∀ p ∈ ps, tieG n p) : ∀ p ∈ tiesP ps, tie1 n p := fun p hp => by
  unfold tiesP at hp
  rw [sortP_mem] at hp
  obtain ⟨q, hq, rfl⟩ := List.mem_map.1 hp
  exact tie1_nrm (h q hq)
theorem tiesP_asc (ps : List IP) : (tiesP ps).Pairwise (fun a b => ltP a b = true) := sortP_sorted _
theorem insP_len (k : IP) : ∀ l : List IP, (insP k l).length ≤ l.length + 1
  | [] => by simp [insP]
  | x :: r => by
    unfold insP
    have := insP_len k r
    split
    · simp
    · split <;> simp <;> omega
theorem sortP_len : ∀ l : List IP, (sortP l).length ≤ l.length
  | [] => Nat.le_refl _
  | k :: r => by
    have h := sortP_len r
    have h2 := insP_len k (sortP r)
    show (insP k (sortP r)).length ≤ r.length + 1
    omega
theorem tiesP_len (ps : List IP) : (tiesP ps).length ≤ ps.length := by
  have h := sortP_len (ps.map nrm)
  rw [List.length_map] at h
  exact h
theorem tiesP_again {n : Nat} {ps : List IP} (h : ∀ p ∈ ps, tieG n p) : tiesP (tiesP ps) = tiesP ps := by
  have e : (tiesP ps).map nrm = tiesP ps := by
    have : ∀ p ∈ tiesP ps, nrm p = p := fun p hp => nrm_of (tiesP_mem h p hp)
    rw [List.map_congr_left this, List.map_id']
  unfold tiesP at e ⊢
  rw [e]
  refine ascP_eq (sortP_sorted _) (sortP_sorted _) fun k => ?_
  rw [sortP_mem]
/-! ### neighbours -/
def nb1 (c : Int) (p : IP) : Option Int := if p.1 = c then some p.2 else if p.2 = c then some p.1 else none
/-- the neighbours of c, tie by tie -/
def nbs (ts : List IP) (c : Int) : List Int := ts.filterMap (nb1 c)
theorem nb1_some {c x : Int} {p : IP} (h : nb1 c p = some x) : (p.1 = c ∧ x = p.2) ∨ (p.2 = c ∧ p.1 ≠ c ∧ x = p.1) := by
  unfold nb1 at h
  split at h
  · cases h
    exact .inl ⟨by assumption, rfl⟩
  · split at h
    · cases h
      exact .inr ⟨by assumption, by assumption, rfl⟩
    · cases h
theorem nbs_asc {n : Nat} {ts : List IP} (h : ∀ p ∈ ts, tie1 n p) (s : ts.Pairwise (fun a b => ltP a b = true)) (c : Int) : (nbs ts c).Pairwise (· < ·) := by
  unfold nbs
  rw [List.pairwise_filterMap]
  refine s.imp_of_mem fun {p q} hp hq l x hx y hy => ?_
  have tp := h p hp
  have tq := h q hq
  unfold tie1 at tp tq
  rw [ltP_iff] at l
  rcases nb1_some hx with ⟨a, b⟩ | ⟨a, a2, b⟩ <;> rcases nb1_some hy with ⟨d, e⟩ | ⟨d, d2, e⟩ <;> subst b <;> subst e <;> omega
theorem nbs_bd {n : Nat} {ts : List IP} (h : ∀ p ∈ ts, tie1 n p) {c x : Int} (hx : x ∈ nbs ts c) : 0 ≤ x ∧ x < (n : Int) := by
  obtain ⟨p, hp, e⟩ := List.mem_filterMap.1 hx
  have t := h p hp
  unfold tie1 at t
  rcases nb1_some e with ⟨_, rfl⟩ | ⟨_, _, rfl⟩ <;> omega
theorem nbs_app (ts : List IP) (p : IP) (c : Int) : nbs (ts ++ [p]) c = nbs ts c ++ (nb1 c p).toList := by
  unfold nbs
  rw [List.filterMap_append]
  cases e : nb1 c p <;> simp [e]
theorem asc_le : ∀ {l : List Int}, l.Pairwise (· < ·) → l.Pairwise (· ≤ ·) := fun h => h.imp fun h => Int.le_of_lt h
theorem sortJ_asc {l : List Int} (h : l.Pairwise (· < ·)) : sortJ l = l := (sortJ_eq (List.Perm.refl l) (asc_le h)).symm
/-- the neighbours of all, as lists -/
def nbQ (n : Nat) (ts : List IP) : List (List D) := (List.range n).map fun (c : Nat) => (nbs ts (c : Int)).map D.int
theorem nbQ_len (n : Nat) (ts : List IP) : (nbQ n ts).length = n := by simp [nbQ]
theorem nbQ_get {n c : Nat} (ts : List IP) (h : c < n) : (nbQ n ts)[c]? = some ((nbs ts (c : Int)).map D.int) := by
  unfold nbQ
  simp [h]
theorem nbs_len (ts : List IP) (c : Int) : (nbs ts c).length ≤ ts.length := List.length_filterMap_le _ _
theorem near_step {n a b : Nat} {ts : List IP} (hab : a < b) (hb : b < n) (hl : ts.length < 3000) :
    ∃ Q1, appQ (nbQ n ts) a (.int (b : Int)) = some Q1 ∧ Q1.length = n ∧ appQ Q1 b (.int (a : Int)) = some (nbQ n (ts ++ [((a : Int), (b : Int))])) := by
  have ha : a < n := by omega
  have la := nbs_len ts (a : Int)
  have lb := nbs_len ts (b : Int)
  have ia : inQ (nbQ n ts) a = (nbs ts (a : Int)).map D.int := by unfold inQ; rw [nbQ_get ts ha]; rfl
  refine ⟨(nbQ n ts).set a ((nbs ts (a : Int)).map D.int ++ [.int (b : Int)]), ?_, by rw [List.length_set, nbQ_len], ?_⟩
  · unfold appQ
    rw [ia]
    unfold app1
    rw [if_pos (by rw [List.length_map]; unfold tooLong; omega)]
    rfl
  · have ib : inQ ((nbQ n ts).set a ((nbs ts (a : Int)).map D.int ++ [.int (b : Int)])) b = (nbs ts (b : Int)).map D.int := by
      unfold inQ
      rw [List.getElem?_set_ne (by omega), nbQ_get ts hb]
      rfl
    unfold appQ
    rw [ib]
    unfold app1
    rw [if_pos (by rw [List.length_map]; unfold tooLong; omega)]
    show some _ = some _
    congr 1
    refine List.ext_getElem? fun i => ?_
    by_cases hi : i < n
    case neg => rw [List.getElem?_eq_none (by rw [List.length_set, List.length_set, nbQ_len]; omega), List.getElem?_eq_none (by rw [nbQ_len]; omega)]
    rw [nbQ_get _ hi, nbs_app, List.map_append]
    by_cases eb : b = i
    · subst eb
      rw [List.getElem?_set_self (by rw [List.length_set, nbQ_len]; omega)]
      have : nb1 (b : Int) ((a : Int), (b : Int)) = some (a : Int) := by
        unfold nb1
        rw [if_neg (by dsimp only; omega), if_pos rfl]
      rw [this]
      rfl
    · rw [List.getElem?_set_ne eb]
      by_cases ea : a = i
      · subst ea
        rw [List.getElem?_set_self (by rw [nbQ_len]; omega)]
        have : nb1 (a : Int) ((a : Int), (b : Int)) = some (b : Int) := by
          unfold nb1
          rw [if_pos rfl]
        rw [this]
        rfl
      · rw [List.getElem?_set_ne ea, nbQ_get ts hi]
        have : nb1 (i : Int) ((a : Int), (b : Int)) = none := by
          unfold nb1
          rw [if_neg (by dsimp only; omega), if_neg (by dsimp only; omega)]
        rw [this]
        simp
theorem tie1_nat {n : Nat} {p : IP} (h : tie1 n p) : ∃ a b : Nat, p = ((a : Int), (b : Int)) ∧ a < b ∧ b < n := by
  unfold tie1 at h
  refine ⟨p.1.toNat, p.2.toNat, Prod.ext ?_ ?_, by omega, by omega⟩
  · show p.1 = _
    omega
  · show p.2 = _
    omega
theorem atQ_nat {Q : List (List D)} {a : Nat} (h : a < Q.length) : atQ Q (.int (a : Int)) = some a := by
  show ixN Q.length (a : Int) = some a
  unfold ixN
  rw [if_pos (by omega), if_pos (by omega)]
  rfl
theorem near_forN {S τ : Type} {un : D → Option τ} {f : τ → List (List D) → MS S (List (List D))} {n : Nat} : ∀ {ts pre : List IP}, (∀ p ∈ ts, tie1 n p) → pre.length + ts.length < 3000 →
    (∀ a b Q Q1 Q2, a < b → b < n → Q.length = n → appQ Q a (.int (b : Int)) = some Q1 → Q1.length = n → appQ Q1 b (.int (a : Int)) = some Q2 → ∃ t, un (prD ((a : Int), (b : Int))) = some t ∧ f t Q = ret Q2) →
    forN un f (ts.map prD) (nbQ n pre) = ret (nbQ n (pre ++ ts))
  | [], pre, _, _, _ => by
    rw [List.append_nil]
    rfl
  | p :: ts, pre, h, hl, hf => by
    obtain ⟨a, b, rfl, hab, hb⟩ := tie1_nat (h p (by simp))
    rw [List.length_cons] at hl
    obtain ⟨Q1, e1, l1, e2⟩ := near_step (n := n) (ts := pre) hab hb (by omega)
    obtain ⟨t, hu, ht⟩ := hf a b (nbQ n pre) Q1 _ hab hb (nbQ_len _ _) e1 l1 e2
    rw [List.map_cons, forN_cons hu ht, near_forN (fun q hq => h q (by simp [hq])) (by rw [List.length_append, List.length_cons, List.length_nil]; omega) hf, List.append_assoc]
    rfl
theorem lcQ_new {S τ : Type} {un : D → Option τ} {f : τ → MS S (List D)} : ∀ {ds : List D}, (∀ d ∈ ds, ∃ t, un d = some t ∧ f t = ret []) → lcQ un f ds = ret (List.replicate ds.length [])
  | [], _ => rfl
  | d :: ds, h => by
    obtain ⟨t, hu, ht⟩ := h d (by simp)
    have ih := lcQ_new (f := f) (fun x hx => h x (List.mem_cons_of_mem _ hx))
    show (bnd (lft (un d)) fun t => bnd (nex (f t)) fun y => bnd (lcQ un f ds) fun ys => ret (y :: ys)) = _
    rw [hu, lft_some, bnd_ret, ht, ih]
    rfl
theorem nbQ_nil (n : Nat) : List.replicate n [] = nbQ n [] := by
  refine List.ext_getElem? fun i => ?_
  by_cases hi : i < n
  · rw [nbQ_get [] hi]
    simp [hi, nbs]
  · rw [List.getElem?_eq_none (by simp; omega), List.getElem?_eq_none (by rw [nbQ_len]; omega)]
/-! ### a set of ties -/
theorem scP_ok {S τ : Type} {un : D → Option τ} {f : τ → MS S D} : ∀ {ps acc : List IP}, (∀ p ∈ ps, ∃ t, un (prD p) = some t ∧ f t = ret (prD (nrm p))) → (∀ p ∈ ps, bndP (nrm p) = true) → acc.length + ps.length < 64 →
    ∃ out, scP un (fun _ => ret true) f acc (ps.map prD) = ret out ∧ ∀ k, k ∈ out ↔ k ∈ acc ∨ k ∈ ps.map nrm
  | [], acc, _, _, _ => ⟨acc, rfl, fun k => by simp⟩
  | p :: ps, acc, h, hb, hl => by
    obtain ⟨t, hu, ht⟩ := h p (by simp)
    rw [List.length_cons] at hl
    have hb1 := hb p (by simp)
    have key : ∀ acc', acc'.length ≤ acc.length + 1 → ∃ out, scP un (fun _ => ret true) f acc' (ps.map prD) = ret out ∧ ∀ k, k ∈ out ↔ k ∈ acc' ∨ k ∈ ps.map nrm := fun acc' hl' =>
      scP_ok (fun q hq => h q (by simp [hq])) (fun q hq => hb q (by simp [hq])) (by omega)
    obtain ⟨out, e, m⟩ := key (if nrm p ∈ acc then acc else nrm p :: acc) (by split <;> simp)
    refine ⟨out, ?_, fun k => ?_⟩
    · rw [← e, List.map_cons]
      show (bnd (lft (un (prD p))) fun t => bnd (nex (ret true)) fun b => if b = true then bnd (nex (f t)) fun y => bnd (lft (pairD y)) fun q => if acc.length < 63 ∧ bndP q = true then scP un (fun _ => ret true) f (if q ∈ acc then acc else q :: acc) (ps.map prD) else stk else scP un (fun _ => ret true) f acc (ps.map prD)) = _
      rw [hu, lft_some, bnd_ret, show nex (ret true : MS S Bool) = ret true from rfl, bnd_ret, if_pos rfl, ht, show nex (ret (prD (nrm p)) : MS S D) = ret (prD (nrm p)) from rfl, bnd_ret, show pairD (prD (nrm p)) = some (nrm p) from rfl, lft_some, bnd_ret, if_pos ⟨by omega, hb1⟩]
    · rw [m k, List.map_cons, List.mem_cons]
      split
      · rename_i hm
        constructor
        · rintro (q | q)
          · exact .inl q
          · exact .inr (.inr q)
        · rintro (q | q | q)
          · exact .inl q
          · rw [q]
            exact .inl hm
          · exact .inr q
      · rw [List.mem_cons]
        constructor
        · rintro ((q | q) | q)
          · exact .inr (.inl q)
          · exact .inl q
          · exact .inr (.inr q)
        · rintro (q | q | q)
          · exact .inl (.inr q)
          · exact .inl (.inl q)
          · exact .inr q
theorem scP_tiesP {S τ : Type} {un : D → Option τ} {f : τ → MS S D} {ps : List IP} (h : ∀ p ∈ ps, ∃ t, un (prD p) = some t ∧ f t = ret (prD (nrm p))) (hb : ∀ p ∈ ps, bndP (nrm p) = true) (hl : ps.length < 64) :
    bnd (scP un (fun _ => ret true) f [] (ps.map prD)) (fun out => ret ((sortP out).map prD)) = (ret ((tiesP ps).map prD) : MS S (List D)) := by
  obtain ⟨out, e, m⟩ := scP_ok (acc := []) h hb (by simpa using hl)
  rw [e, bnd_ret]
  congr 2
  refine ascP_eq (sortP_sorted _) (sortP_sorted _) fun k => ?_
  rw [sortP_mem, m k, show tiesP ps = sortP (ps.map nrm) from rfl, sortP_mem]
  simp
theorem setP_tiesP {ps : List IP} (hb : ∀ p ∈ ps, bndP (nrm p) = true) (hl : ps.length < 64) : oSortSetP (.lst ((ps.map nrm).map prD)) = some ((tiesP ps).map prD) := by
  unfold oSortSetP
  dsimp only
  rw [pairsD_map]
  dsimp only
  rw [if_pos ⟨by rw [List.length_map]; exact hl, List.all_eq_true.2 fun q hq => by
    obtain ⟨p, hp, rfl⟩ := List.mem_map.1 hq
    exact hb p hp⟩]
  rfl
theorem bndP_nrm {n : Nat} {p : IP} (h : tieG n p) (hn : n ≤ 1000) : bndP (nrm p) = true := by
  have t := tie1_nrm h
  unfold tie1 at t
  rw [bndP_iff]
  omega
/-! ### walks that only judge -/
theorem forN_unit {S τ : Type} {un : D → Option τ} {f : τ → Unit → MS S Unit} : ∀ {ds : List D}, (∀ d ∈ ds, ∃ t, un d = some t ∧ f t () = ret ()) → forN un f ds () = ret ()
  | [], _ => rfl
  | d :: ds, h => by
    obtain ⟨t, hu, ht⟩ := h d (by simp)
    rw [forN_cons hu ht]
    exact forN_unit fun x hx => h x (List.mem_cons_of_mem _ hx)
theorem forN_bad {S τ : Type} {un : D → Option τ} {f : τ → Unit → MS S Unit} {d : D} {t : τ} {c : Nat} {fs : List D} {ds2 : List D} (hu : un d = some t) (ht : f t () = rse c fs) : ∀ {ds : List D}, (∀ d ∈ ds, ∃ t, un d = some t ∧ f t () = ret ()) → forN un f (ds ++ d :: ds2) () = rse c fs
  | [], _ => by
    show bnd (lft (un d)) (fun t => bnd (f t ()) fun b => forN un f ds2 b) = _
    rw [hu, lft_some, bnd_ret, ht, bnd_rse]
  | x :: ds, h => by
    obtain ⟨t', hu', ht'⟩ := h x (by simp)
    rw [List.cons_append, forN_cons hu' ht']
    exact forN_bad hu ht fun x hx => h x (List.mem_cons_of_mem _ hx)
theorem numb_app : ∀ (l1 l2 : List D) (n : Nat), numb n (l1 ++ l2) = numb n l1 ++ numb (n + l1.length) l2
  | [], l2, n => rfl
  | x :: l1, l2, n => by
    rw [List.cons_append]
    show _ :: numb (n + 1) (l1 ++ l2) = (_ :: numb (n + 1) l1) ++ _
    rw [numb_app l1 l2 (n + 1), List.length_cons, show n + 1 + l1.length = n + (l1.length + 1) by omega]
    rfl
theorem numb_mem : ∀ {l : List D} {n : Nat} {d : D}, d ∈ numb n l → ∃ i x, l[i]? = some x ∧ d = .tup [.int ((n + i : Nat) : Int), x]
  | [], _, _, h => by cases h
  | x :: l, n, d, h => by
    rcases List.mem_cons.1 (show d ∈ D.tup [.int (n : Int), x] :: numb (n + 1) l from h) with e | h
    · exact ⟨0, x, rfl, e⟩
    · obtain ⟨i, y, h1, h2⟩ := numb_mem h
      exact ⟨i + 1, y, by simpa using h1, by rw [h2]; congr 3; omega⟩
theorem sl_to {d : D} {L : List D} {k : Nat} (hd : items d = some L) : ∃ e, oSl d none (some (k : Int)) = some e ∧ items e = some (L.take k) := by
  cases d <;> first | (cases hd; done) | skip
  · cases hd
    exact ⟨_, rfl, by rw [← cut_takeN]; rfl⟩
  · cases hd
    exact ⟨_, rfl, by rw [← cut_takeN]; rfl⟩
  · cases hd
    exact ⟨_, rfl, by rw [← cut_takeN]; rfl⟩
theorem un2s_pr (p : IP) : un2s (prD p) = some (.int p.1, .int p.2) := rfl
theorem mm_nrm (p : IP) : oMin2 (.int p.1) (.int p.2) = some (.int (nrm p).1) ∧ oMax2 (.int p.1) (.int p.2) = some (.int (nrm p).2) := by
  unfold nrm
  by_cases c : p.1 ≤ p.2
  · rw [if_pos c]
    constructor
    · show some (D.int (if p.2 < p.1 then p.2 else p.1)) = _
      rw [if_neg (by omega)]
    · show some (D.int (if p.2 > p.1 then p.2 else p.1)) = _
      congr 2
      split <;> omega
  · rw [if_neg c]
    constructor
    · show some (D.int (if p.2 < p.1 then p.2 else p.1)) = _
      rw [if_pos (by omega)]
    · show some (D.int (if p.2 > p.1 then p.2 else p.1)) = _
      rw [if_neg (by omega)]
end Dm

set_option Elab.async false
set_option linter.all false
set_option maxRecDepth 100000
set_option maxHeartbeats 8000000
namespace G_spreadhues_k03_whole_neighbours_and_new
open PySem PySem.Spec PyProof.Rows L2 Dm
def topS (i : Nat) : Stmt := PySem.Challenge.pw_spreadhues_k03_whole_neighbours_and_new.main.body.getD i (.Pass ⟨0, 0, 0, 0⟩)
abbrev s_is_whole : Stmt := topS 7
abbrev s_is_sequence : Stmt := topS 8
abbrev s_is_couple : Stmt := topS 9
abbrev s_is_colour : Stmt := topS 10
abbrev s_wrong_colour : Stmt := topS 11
abbrev s__checked_cells : Stmt := topS 17
abbrev s__checked_ties : Stmt := topS 18
abbrev s__is_tie : Stmt := topS 19
abbrev s__checked_marks : Stmt := topS 20
abbrev s_check_cell : Stmt := topS 21
abbrev s_check_mark : Stmt := topS 22
abbrev s_neighbours_of : Stmt := topS 23
abbrev s_near_lists : Stmt := topS 24
abbrev s_with_colours : Stmt := topS 25
abbrev s_with_marks : Stmt := topS 26
abbrev s__law_hand : Stmt := topS 28
abbrev s__law_mixed : Stmt := topS 29
abbrev s__law_take : Stmt := topS 30
abbrev s__law_colour : Stmt := topS 31
abbrev s__law_ties : Stmt := topS 32
abbrev s__law_marks : Stmt := topS 33
abbrev s__law_picture : Stmt := topS 34
abbrev s__law_near : Stmt := topS 35
abbrev s__law_tuples : Stmt := topS 36
abbrev s__law_made : Stmt := topS 37
abbrev s__law_odd : Stmt := topS 38
abbrev s__law_rid : Stmt := topS 39
abbrev s__law_least : Stmt := topS 40
abbrev s__law_same : Stmt := topS 41
abbrev s__law_cell : Stmt := topS 42
abbrev s__law_near_of : Stmt := topS 43
abbrev s__law_mark : Stmt := topS 44
abbrev s__law_new : Stmt := topS 45
abbrev s__law_moved : Stmt := topS 46
abbrev s_law : Stmt := topS 47
abbrev s_BadPicture : Stmt := inClass (topS 2) 0
abbrev s_NoCell : Stmt := inClass (topS 3) 0
abbrev s_NoMark : Stmt := inClass (topS 4) 0
abbrev s_Picture__init__ : Stmt := inClass (topS 16) 0
abbrev s_Picture__len__ : Stmt := inClass (topS 16) 1
structure Ad where
  a_Picture__init__ : Addr
  d_Picture__init__ : FuncData
  a_Picture__len__ : Addr
  d_Picture__len__ : FuncData
  a_is_whole : Addr
  d_is_whole : FuncData
  a_is_sequence : Addr
  d_is_sequence : FuncData
  a_is_couple : Addr
  d_is_couple : FuncData
  a_is_colour : Addr
  d_is_colour : FuncData
  a_wrong_colour : Addr
  d_wrong_colour : FuncData
  a__checked_cells : Addr
  d__checked_cells : FuncData
  a__checked_ties : Addr
  d__checked_ties : FuncData
  a__is_tie : Addr
  d__is_tie : FuncData
  a__checked_marks : Addr
  d__checked_marks : FuncData
  a_check_cell : Addr
  d_check_cell : FuncData
  a_check_mark : Addr
  d_check_mark : FuncData
  a_neighbours_of : Addr
  d_neighbours_of : FuncData
  a_near_lists : Addr
  d_near_lists : FuncData
  a_with_colours : Addr
  d_with_colours : FuncData
  a_with_marks : Addr
  d_with_marks : FuncData
  a__law_hand : Addr
  d__law_hand : FuncData
  a__law_mixed : Addr
  d__law_mixed : FuncData
  a__law_take : Addr
  d__law_take : FuncData
  a__law_colour : Addr
  d__law_colour : FuncData
  a__law_ties : Addr
  d__law_ties : FuncData
  a__law_marks : Addr
  d__law_marks : FuncData
  a__law_picture : Addr
  d__law_picture : FuncData
  a__law_near : Addr
  d__law_near : FuncData
  a__law_tuples : Addr
  d__law_tuples : FuncData
  a__law_made : Addr
  d__law_made : FuncData
  a__law_odd : Addr
  d__law_odd : FuncData
  a__law_rid : Addr
  d__law_rid : FuncData
  a__law_least : Addr
  d__law_least : FuncData
  a__law_same : Addr
  d__law_same : FuncData
  a__law_cell : Addr
  d__law_cell : FuncData
  a__law_near_of : Addr
  d__law_near_of : FuncData
  a__law_mark : Addr
  d__law_mark : FuncData
  a__law_new : Addr
  d__law_new : FuncData
  a__law_moved : Addr
  d__law_moved : FuncData
  a_law : Addr
  d_law : FuncData
  c_HueError : Addr
  c_BadPicture : Addr
  c_NoCell : Addr
  c_NoMark : Addr
  c_Picture : Addr
  i_BadPicture : Addr
  di_BadPicture : FuncData
  i_NoCell : Addr
  di_NoCell : FuncData
  i_NoMark : Addr
  di_NoMark : FuncData
def fnZ : Nat → List Str
  | 0 => ["what", "index"]
  | 1 => ["cell"]
  | 2 => ["mark"]
  | 3 => ["colours", "ties", "marks"]
  | _ => []
def Zo (K : PySem.W.Frag) (A : Ad) : Wo := ⟨K, fun n => match n with | 0 => A.c_BadPicture | 1 => A.c_NoCell | 2 => A.c_NoMark | 3 => A.c_Picture | _ => 0, fnZ⟩
structure Tx (K : PySem.W.Frag) (mg : Str → Option Value) (A : Ad) : Prop where
  F_is_whole : FunD K "is_whole" "is_whole" (defArgs s_is_whole) (defBody s_is_whole) (defScope s_is_whole) [.non, .non] [] A.a_is_whole A.d_is_whole
  g_is_whole : mg "is_whole" = some (.ref A.a_is_whole)
  b_is_whole : Binds K A.d_is_whole ["thing", "low", "high"] []
  F_is_sequence : FunD K "is_sequence" "is_sequence" (defArgs s_is_sequence) (defBody s_is_sequence) (defScope s_is_sequence) [] [] A.a_is_sequence A.d_is_sequence
  g_is_sequence : mg "is_sequence" = some (.ref A.a_is_sequence)
  b_is_sequence : Binds K A.d_is_sequence ["thing"] []
  F_is_couple : FunD K "is_couple" "is_couple" (defArgs s_is_couple) (defBody s_is_couple) (defScope s_is_couple) [] [] A.a_is_couple A.d_is_couple
  g_is_couple : mg "is_couple" = some (.ref A.a_is_couple)
  b_is_couple : Binds K A.d_is_couple ["thing"] []
  F_is_colour : FunD K "is_colour" "is_colour" (defArgs s_is_colour) (defBody s_is_colour) (defScope s_is_colour) [] [] A.a_is_colour A.d_is_colour
  g_is_colour : mg "is_colour" = some (.ref A.a_is_colour)
  b_is_colour : Binds K A.d_is_colour ["thing"] []
  F_wrong_colour : FunD K "wrong_colour" "wrong_colour" (defArgs s_wrong_colour) (defBody s_wrong_colour) (defScope s_wrong_colour) [] [] A.a_wrong_colour A.d_wrong_colour
  g_wrong_colour : mg "wrong_colour" = some (.ref A.a_wrong_colour)
  b_wrong_colour : Binds K A.d_wrong_colour ["row"] []
  F__checked_cells : FunD K "_checked_cells" "_checked_cells" (defArgs s__checked_cells) (defBody s__checked_cells) (defScope s__checked_cells) [] [] A.a__checked_cells A.d__checked_cells
  g__checked_cells : mg "_checked_cells" = some (.ref A.a__checked_cells)
  b__checked_cells : Binds K A.d__checked_cells ["colours"] []
  F__checked_ties : FunD K "_checked_ties" "_checked_ties" (defArgs s__checked_ties) (defBody s__checked_ties) (defScope s__checked_ties) [] [] A.a__checked_ties A.d__checked_ties
  g__checked_ties : mg "_checked_ties" = some (.ref A.a__checked_ties)
  b__checked_ties : Binds K A.d__checked_ties ["ties", "many"] []
  F__is_tie : FunD K "_is_tie" "_is_tie" (defArgs s__is_tie) (defBody s__is_tie) (defScope s__is_tie) [] [] A.a__is_tie A.d__is_tie
  g__is_tie : mg "_is_tie" = some (.ref A.a__is_tie)
  b__is_tie : Binds K A.d__is_tie ["tie", "many"] []
  F__checked_marks : FunD K "_checked_marks" "_checked_marks" (defArgs s__checked_marks) (defBody s__checked_marks) (defScope s__checked_marks) [] [] A.a__checked_marks A.d__checked_marks
  g__checked_marks : mg "_checked_marks" = some (.ref A.a__checked_marks)
  b__checked_marks : Binds K A.d__checked_marks ["marks", "many"] []
  F_check_cell : FunD K "check_cell" "check_cell" (defArgs s_check_cell) (defBody s_check_cell) (defScope s_check_cell) [] [] A.a_check_cell A.d_check_cell
  g_check_cell : mg "check_cell" = some (.ref A.a_check_cell)
  b_check_cell : Binds K A.d_check_cell ["picture", "cell"] []
  F_check_mark : FunD K "check_mark" "check_mark" (defArgs s_check_mark) (defBody s_check_mark) (defScope s_check_mark) [] [] A.a_check_mark A.d_check_mark
  g_check_mark : mg "check_mark" = some (.ref A.a_check_mark)
  b_check_mark : Binds K A.d_check_mark ["marks", "mark"] []
  F_neighbours_of : FunD K "neighbours_of" "neighbours_of" (defArgs s_neighbours_of) (defBody s_neighbours_of) (defScope s_neighbours_of) [] [] A.a_neighbours_of A.d_neighbours_of
  g_neighbours_of : mg "neighbours_of" = some (.ref A.a_neighbours_of)
  b_neighbours_of : Binds K A.d_neighbours_of ["picture", "cell"] []
  F_near_lists : FunD K "near_lists" "near_lists" (defArgs s_near_lists) (defBody s_near_lists) (defScope s_near_lists) [] [] A.a_near_lists A.d_near_lists
  g_near_lists : mg "near_lists" = some (.ref A.a_near_lists)
  b_near_lists : Binds K A.d_near_lists ["many", "ties"] []
  F_with_colours : FunD K "with_colours" "with_colours" (defArgs s_with_colours) (defBody s_with_colours) (defScope s_with_colours) [] [] A.a_with_colours A.d_with_colours
  g_with_colours : mg "with_colours" = some (.ref A.a_with_colours)
  b_with_colours : Binds K A.d_with_colours ["picture", "colours"] []
  F_with_marks : FunD K "with_marks" "with_marks" (defArgs s_with_marks) (defBody s_with_marks) (defScope s_with_marks) [] [] A.a_with_marks A.d_with_marks
  g_with_marks : mg "with_marks" = some (.ref A.a_with_marks)
  b_with_marks : Binds K A.d_with_marks ["picture", "marks"] []
  F__law_hand : FunD K "_law_hand" "_law_hand" (defArgs s__law_hand) (defBody s__law_hand) (defScope s__law_hand) [] [] A.a__law_hand A.d__law_hand
  g__law_hand : mg "_law_hand" = some (.ref A.a__law_hand)
  b__law_hand : Binds K A.d__law_hand ["_law_script"] []
  F__law_mixed : FunD K "_law_mixed" "_law_mixed" (defArgs s__law_mixed) (defBody s__law_mixed) (defScope s__law_mixed) [] [] A.a__law_mixed A.d__law_mixed
  g__law_mixed : mg "_law_mixed" = some (.ref A.a__law_mixed)
  b__law_mixed : Binds K A.d__law_mixed ["_law_number", "_law_turn"] []
  F__law_take : FunD K "_law_take" "_law_take" (defArgs s__law_take) (defBody s__law_take) (defScope s__law_take) [] [] A.a__law_take A.d__law_take
  g__law_take : mg "_law_take" = some (.ref A.a__law_take)
  b__law_take : Binds K A.d__law_take ["_law_hand_here", "_law_many"] []
  F__law_colour : FunD K "_law_colour" "_law_colour" (defArgs s__law_colour) (defBody s__law_colour) (defScope s__law_colour) [] [] A.a__law_colour A.d__law_colour
  g__law_colour : mg "_law_colour" = some (.ref A.a__law_colour)
  b__law_colour : Binds K A.d__law_colour ["_law_hand_here"] []
  F__law_ties : FunD K "_law_ties" "_law_ties" (defArgs s__law_ties) (defBody s__law_ties) (defScope s__law_ties) [] [] A.a__law_ties A.d__law_ties
  g__law_ties : mg "_law_ties" = some (.ref A.a__law_ties)
  b__law_ties : Binds K A.d__law_ties ["_law_hand_here", "_law_many"] []
  F__law_marks : FunD K "_law_marks" "_law_marks" (defArgs s__law_marks) (defBody s__law_marks) (defScope s__law_marks) [] [] A.a__law_marks A.d__law_marks
  g__law_marks : mg "_law_marks" = some (.ref A.a__law_marks)
  b__law_marks : Binds K A.d__law_marks ["_law_hand_here", "_law_many", "_law_wanted"] []
  F__law_picture : FunD K "_law_picture" "_law_picture" (defArgs s__law_picture) (defBody s__law_picture) (defScope s__law_picture) [] [] A.a__law_picture A.d__law_picture
  g__law_picture : mg "_law_picture" = some (.ref A.a__law_picture)
  b__law_picture : Binds K A.d__law_picture ["_law_hand_here", "_law_most", "_law_wanted"] []
  F__law_near : FunD K "_law_near" "_law_near" (defArgs s__law_near) (defBody s__law_near) (defScope s__law_near) [] [] A.a__law_near A.d__law_near
  g__law_near : mg "_law_near" = some (.ref A.a__law_near)
  b__law_near : Binds K A.d__law_near ["_law_many", "_law_ties_here"] []
  F__law_tuples : FunD K "_law_tuples" "_law_tuples" (defArgs s__law_tuples) (defBody s__law_tuples) (defScope s__law_tuples) [] [] A.a__law_tuples A.d__law_tuples
  g__law_tuples : mg "_law_tuples" = some (.ref A.a__law_tuples)
  b__law_tuples : Binds K A.d__law_tuples ["_law_thing"] []
  F__law_made : FunD K "_law_made" "_law_made" (defArgs s__law_made) (defBody s__law_made) (defScope s__law_made) [] [] A.a__law_made A.d__law_made
  g__law_made : mg "_law_made" = some (.ref A.a__law_made)
  b__law_made : Binds K A.d__law_made ["_law_picture_here"] []
  F__law_odd : FunD K "_law_odd" "_law_odd" (defArgs s__law_odd) (defBody s__law_odd) (defScope s__law_odd) [] [] A.a__law_odd A.d__law_odd
  g__law_odd : mg "_law_odd" = some (.ref A.a__law_odd)
  b__law_odd : Binds K A.d__law_odd ["_law_hand_here", "_law_bound"] []
  F__law_rid : FunD K "_law_rid" "_law_rid" (defArgs s__law_rid) (defBody s__law_rid) (defScope s__law_rid) [] [] A.a__law_rid A.d__law_rid
  g__law_rid : mg "_law_rid" = some (.ref A.a__law_rid)
  b__law_rid : Binds K A.d__law_rid ["_law_hand_here"] []
  F__law_least : FunD K "_law_least" "_law_least" (defArgs s__law_least) (defBody s__law_least) (defScope s__law_least) [] [] A.a__law_least A.d__law_least
  g__law_least : mg "_law_least" = some (.ref A.a__law_least)
  b__law_least : Binds K A.d__law_least ["_law_ties_here"] []
  F__law_same : FunD K "_law_same" "_law_same" (defArgs s__law_same) (defBody s__law_same) (defScope s__law_same) [] [] A.a__law_same A.d__law_same
  g__law_same : mg "_law_same" = some (.ref A.a__law_same)
  b__law_same : Binds K A.d__law_same ["_law_told", "_law_picture_here"] []
  F__law_cell : FunD K "_law_cell" "_law_cell" (defArgs s__law_cell) (defBody s__law_cell) (defScope s__law_cell) [] [] A.a__law_cell A.d__law_cell
  g__law_cell : mg "_law_cell" = some (.ref A.a__law_cell)
  b__law_cell : Binds K A.d__law_cell ["_law_told", "_law_cell_here"] []
  F__law_near_of : FunD K "_law_near_of" "_law_near_of" (defArgs s__law_near_of) (defBody s__law_near_of) (defScope s__law_near_of) [] [] A.a__law_near_of A.d__law_near_of
  g__law_near_of : mg "_law_near_of" = some (.ref A.a__law_near_of)
  b__law_near_of : Binds K A.d__law_near_of ["_law_told", "_law_cell_here"] []
  F__law_mark : FunD K "_law_mark" "_law_mark" (defArgs s__law_mark) (defBody s__law_mark) (defScope s__law_mark) [] [] A.a__law_mark A.d__law_mark
  g__law_mark : mg "_law_mark" = some (.ref A.a__law_mark)
  b__law_mark : Binds K A.d__law_mark ["_law_marks_here", "_law_mark_here"] []
  F__law_new : FunD K "_law_new" "_law_new" (defArgs s__law_new) (defBody s__law_new) (defScope s__law_new) [] [] A.a__law_new A.d__law_new
  g__law_new : mg "_law_new" = some (.ref A.a__law_new)
  b__law_new : Binds K A.d__law_new ["_law_told", "_law_colours"] []
  F__law_moved : FunD K "_law_moved" "_law_moved" (defArgs s__law_moved) (defBody s__law_moved) (defScope s__law_moved) [] [] A.a__law_moved A.d__law_moved
  g__law_moved : mg "_law_moved" = some (.ref A.a__law_moved)
  b__law_moved : Binds K A.d__law_moved ["_law_told", "_law_marks_here"] []
  F_law : FunD K "law" "law" (defArgs s_law) (defBody s_law) (defScope s_law) [] [] A.a_law A.d_law
  g_law : mg "law" = some (.ref A.a_law)
  b_law : Binds K A.d_law ["_law_script"] []
  g_Picture : mg "Picture" = some (.ref A.c_Picture)
  mk_Picture : Mk K A.c_Picture A.a_Picture__init__
  F_Picture__init__ : FunD K "__init__" "Picture.__init__" (defArgs s_Picture__init__) (defBody s_Picture__init__) (defScope s_Picture__init__) [] [] A.a_Picture__init__ A.d_Picture__init__
  b_Picture__init__ : Binds K A.d_Picture__init__ ["self", "colours", "ties", "marks"] []
  at_Picture__init__ : PySem.W.findIn K (.ref A.c_Picture) "__init__" = some (some (.ref A.a_Picture__init__))
  if_Picture__init__ : PySem.W.isFn K (.ref A.a_Picture__init__) = true
  F_Picture__len__ : FunD K "__len__" "Picture.__len__" (defArgs s_Picture__len__) (defBody s_Picture__len__) (defScope s_Picture__len__) [] [] A.a_Picture__len__ A.d_Picture__len__
  b_Picture__len__ : Binds K A.d_Picture__len__ ["self"] []
  at_Picture__len__ : PySem.W.findIn K (.ref A.c_Picture) "__len__" = some (some (.ref A.a_Picture__len__))
  if_Picture__len__ : PySem.W.isFn K (.ref A.a_Picture__len__) = true
  zo : ZO (Zo K A) 3 4
  o_BadPicture : OexC K A.c_BadPicture
  x_BadPicture : XfC K A.c_BadPicture
  g_BadPicture : mg "BadPicture" = some (.ref A.c_BadPicture)
  i_BadPicture : PySem.W.findIn K (.ref A.c_BadPicture) "__init__" = some (some (.ref A.i_BadPicture))
  t_BadPicture : PySem.W.typeIn K (.ref A.i_BadPicture) = some (.type "function")
  FI_BadPicture : FunD K "__init__" "BadPicture.__init__" (defArgs s_BadPicture) (defBody s_BadPicture) (defScope s_BadPicture) [] [] A.i_BadPicture A.di_BadPicture
  bi_BadPicture : Binds K A.di_BadPicture ["self", "index", "what"] []
  h_BadPicture_index : PySem.W.findIn K (.ref A.c_BadPicture) "index" = some none
  h_BadPicture_what : PySem.W.findIn K (.ref A.c_BadPicture) "what" = some none
  o_NoCell : OexC K A.c_NoCell
  x_NoCell : XfC K A.c_NoCell
  g_NoCell : mg "NoCell" = some (.ref A.c_NoCell)
  i_NoCell : PySem.W.findIn K (.ref A.c_NoCell) "__init__" = some (some (.ref A.i_NoCell))
  t_NoCell : PySem.W.typeIn K (.ref A.i_NoCell) = some (.type "function")
  FI_NoCell : FunD K "__init__" "NoCell.__init__" (defArgs s_NoCell) (defBody s_NoCell) (defScope s_NoCell) [] [] A.i_NoCell A.di_NoCell
  bi_NoCell : Binds K A.di_NoCell ["self", "cell"] []
  h_NoCell_cell : PySem.W.findIn K (.ref A.c_NoCell) "cell" = some none
  o_NoMark : OexC K A.c_NoMark
  x_NoMark : XfC K A.c_NoMark
  g_NoMark : mg "NoMark" = some (.ref A.c_NoMark)
  i_NoMark : PySem.W.findIn K (.ref A.c_NoMark) "__init__" = some (some (.ref A.i_NoMark))
  t_NoMark : PySem.W.typeIn K (.ref A.i_NoMark) = some (.type "function")
  FI_NoMark : FunD K "__init__" "NoMark.__init__" (defArgs s_NoMark) (defBody s_NoMark) (defScope s_NoMark) [] [] A.i_NoMark A.di_NoMark
  bi_NoMark : Binds K A.di_NoMark ["self", "mark"] []
  h_NoMark_mark : PySem.W.findIn K (.ref A.c_NoMark) "mark" = some none
  base : BaseC K mg "HueError" A.c_HueError
  n_abs : mg "abs" = none
  n_bool : mg "bool" = none
  n_enumerate : mg "enumerate" = none
  n_int : mg "int" = none
  n_isinstance : mg "isinstance" = none
  n_len : mg "len" = none
  n_list : mg "list" = none
  n_max : mg "max" = none
  n_min : mg "min" = none
  n_range : mg "range" = none
  n_set : mg "set" = none
  n_sorted : mg "sorted" = none
  n_tuple : mg "tuple" = none
  k_MOST_COLOUR : ∃ t, mg "MOST_COLOUR" = some (.int 99 t)
  k_MOST_MARKS : ∃ t, mg "MOST_MARKS" = some (.int 4 t)
  k_MOST_CELLS : ∃ t, mg "MOST_CELLS" = some (.int 700 t)
  k_MOST_TIES : ∃ t, mg "MOST_TIES" = some (.int 2000 t)
  ex : ∀ c c', c < 3 → c' < 3 → PySem.W.exmOne K (.ref ((Zo K A).cl c)) (.ref ((Zo K A).cl c')) = some (decide (c = c'))
def ok_i_BadPicture : List V → Prop
  | [v0, v1] => fmtV v1 ∧ fmtV v0
  | _ => False
noncomputable def okD_BadPicture : List D → Bool
  | [v0, v1] => fmtD v1 && fmtD v0
  | _ => false
def ok_i_NoCell : List V → Prop
  | [v0] => True
  | _ => False
noncomputable def okD_NoCell : List D → Bool
  | [v0] => true
  | _ => false
def ok_i_NoMark : List V → Prop
  | [v0] => True
  | _ => False
noncomputable def okD_NoMark : List D → Bool
  | [v0] => true
  | _ => false
noncomputable def m_is_whole (S : Type) : List D → MS S D
  | [a_thing, a_low, a_high] => bnd (bnd (bnd (bnd (bnd (ret a_thing) fun x3 => lft (oIsA .int x3)) fun x4 => lft (tru x4)) fun b5 => ret (!b5)) fun b6 => if b6 = true then ret true else bnd (bnd (ret a_thing) fun x1 => lft (oIsA .bool x1)) fun x2 => lft (tru x2)) fun b7 => if b7 = true then ret (.bl false) else bnd (bnd (bnd (bnd (ret a_low) fun x11 => bnd (ret .non) fun x12 => lft (oNis x11 x12)) fun x13 => lft (asB x13)) fun b14 => if b14 = true then bnd (bnd (ret a_thing) fun x8 => bnd (ret a_low) fun x9 => lft (oLt x8 x9)) fun x10 => lft (asB x10) else ret false) fun b15 => if b15 = true then ret (.bl false) else bnd (bnd (ret a_high) fun x18 => bnd (ret .non) fun x19 => lft (oIs x18 x19)) fun x20 => bnd (lft (asB x20)) fun b21 => if b21 = true then ret (.bl true) else bnd (ret a_thing) fun x16 => bnd (ret a_high) fun x17 => lft (oLe x16 x17)
  | _ => stk
noncomputable def m_is_sequence (S : Type) : List D → MS S D
  | [a_thing] => bnd (ret a_thing) fun x1 => lft (oIsAs [.list, .tuple] x1)
  | _ => stk
noncomputable def m_is_couple (S : Type) : List D → MS S D
  | [a_thing] => bnd (bnd (bnd (ret a_thing) fun x4 => bnd (ret []) fun ds5 => ret (x4 :: ds5)) fun ds6 => m_is_sequence S (ds6 ++ [])) fun x7 => bnd (lft (asB x7)) fun b8 => if b8 = true then bnd (bnd (ret a_thing) fun x1 => lft (oLen x1)) fun x2 => bnd (ret (.int 2)) fun x3 => lft (oEq x2 x3) else ret (.bl false)
  | _ => stk
noncomputable def m_is_colour (S : Type) : List D → MS S D
  | [a_thing] => bnd (bnd (ret a_thing) fun x5 => bnd (bnd (ret (.int 0)) fun x3 => bnd (bnd (ret (.int 99)) fun x1 => bnd (ret []) fun ds2 => ret (x1 :: ds2)) fun ds4 => ret (x3 :: ds4)) fun ds6 => ret (x5 :: ds6)) fun ds7 => m_is_whole S (ds7 ++ [])
  | _ => stk
noncomputable def m_wrong_colour (S : Type) : List D → MS S D
  | [a_row] => bnd (bnd (bnd (ret a_row) fun x11 => lft ((items x11).map (numb 0))) fun ds10 => forF un2 (fun (t3 : D × D) (s2 : Unit) => bnd (bnd (bnd (bnd (bnd (ret t3.2) fun x4 => bnd (ret []) fun ds5 => ret (x4 :: ds5)) fun ds6 => m_is_colour S (ds6 ++ [])) fun x7 => lft (tru x7)) fun b8 => ret (!b8)) fun b9 => if b9 = true then bnd (ret t3.1) fun a => ret (Fl.rt a) else bnd (ret ()) fun _ => ret (Fl.nx ())) ds10 ()) (frD fun s2 => ret .non)
  | _ => stk
noncomputable def m__checked_cells (S : Type) : List D → MS S D
  | [a_colours] => bnd (bnd (bnd (bnd (bnd (bnd (ret a_colours) fun x8 => bnd (ret []) fun ds9 => ret (x8 :: ds9)) fun ds10 => m_is_sequence S (ds10 ++ [])) fun x11 => lft (tru x11)) fun b12 => ret (!b12)) fun b13 => if b13 = true then ret true else bnd (bnd (bnd (ret (.int 1)) fun x2 => bnd (bnd (ret a_colours) fun x1 => lft (oLen x1)) fun x3 => bnd (lft ((oLe x2 x3).bind asB)) fun k4 => if k4 = true then bnd (ret (.int 700)) fun x5 => lft (oLe x3 x5) else ret (.bl false)) fun x6 => lft (asB x6)) fun b7 => ret (!b7)) fun b14 => if b14 = true then bnd (bnd (ret (.int 0)) fun x17 => bnd (bnd (ret (.str "cells")) fun x15 => bnd (ret []) fun ds16 => ret (x15 :: ds16)) fun ds18 => ret (x17 :: ds18)) fun ds19 => if okD_BadPicture ds19 = true then rse 0 ds19.reverse else stk else bnd (bnd (bnd (ret a_colours) fun x21 => bnd (ret []) fun ds22 => ret (x21 :: ds22)) fun ds23 => m_wrong_colour S (ds23 ++ [])) fun v_wrong_20 => bnd (bnd (bnd (ret v_wrong_20) fun x24 => bnd (ret .non) fun x25 => lft (oNis x24 x25)) fun x26 => lft (asB x26)) fun b27 => if b27 = true then bnd (bnd (ret v_wrong_20) fun x30 => bnd (bnd (ret (.str "colour")) fun x28 => bnd (ret []) fun ds29 => ret (x28 :: ds29)) fun ds31 => ret (x30 :: ds31)) fun ds32 => if okD_BadPicture ds32 = true then rse 0 ds32.reverse else stk else bnd (ret a_colours) fun x33 => lft (oTuple x33)
  | _ => stk
noncomputable def m__is_tie (S : Type) : List D → MS S D
  | [a_tie, a_many] => bnd (bnd (bnd (bnd (bnd (ret a_tie) fun x1 => bnd (ret []) fun ds2 => ret (x1 :: ds2)) fun ds3 => m_is_couple S (ds3 ++ [])) fun x4 => lft (tru x4)) fun b5 => ret (!b5)) fun b6 => if b6 = true then ret (.bl false) else bnd (bnd (ret a_tie) fun x8 => lft (un2s x8)) fun t7 => bnd (bnd (bnd (ret t7.1) fun x28 => bnd (bnd (ret (.int 0)) fun x26 => bnd (bnd (bnd (ret a_many) fun x22 => bnd (ret (.int 1)) fun x23 => lft (oSub x22 x23)) fun x24 => bnd (ret []) fun ds25 => ret (x24 :: ds25)) fun ds27 => ret (x26 :: ds27)) fun ds29 => ret (x28 :: ds29)) fun ds30 => m_is_whole S (ds30 ++ [])) fun x31 => bnd (lft (asB x31)) fun b32 => if b32 = true then bnd (bnd (bnd (ret t7.2) fun x17 => bnd (bnd (ret (.int 0)) fun x15 => bnd (bnd (bnd (ret a_many) fun x11 => bnd (ret (.int 1)) fun x12 => lft (oSub x11 x12)) fun x13 => bnd (ret []) fun ds14 => ret (x13 :: ds14)) fun ds16 => ret (x15 :: ds16)) fun ds18 => ret (x17 :: ds18)) fun ds19 => m_is_whole S (ds19 ++ [])) fun x20 => bnd (lft (asB x20)) fun b21 => if b21 = true then bnd (ret t7.1) fun x9 => bnd (ret t7.2) fun x10 => lft (oNe x9 x10) else ret (.bl false) else ret (.bl false)
  | _ => stk
noncomputable def m__checked_ties (S : Type) : List D → MS S D
  | [a_ties, a_many] => bnd (bnd (bnd (bnd (bnd (bnd (ret a_ties) fun x5 => bnd (ret []) fun ds6 => ret (x5 :: ds6)) fun ds7 => m_is_sequence S (ds7 ++ [])) fun x8 => lft (tru x8)) fun b9 => ret (!b9)) fun b10 => if b10 = true then ret true else bnd (bnd (bnd (ret a_ties) fun x1 => lft (oLen x1)) fun x2 => bnd (ret (.int 2000)) fun x3 => lft (oGt x2 x3)) fun x4 => lft (asB x4)) fun b11 => if b11 = true then bnd (bnd (ret (.int 0)) fun x14 => bnd (bnd (ret (.str "ties")) fun x12 => bnd (ret []) fun ds13 => ret (x12 :: ds13)) fun ds15 => ret (x14 :: ds15)) fun ds16 => if okD_BadPicture ds16 = true then rse 0 ds16.reverse else stk else bnd (bnd (bnd (ret a_ties) fun x50 => lft ((items x50).map (numb 0))) fun ds49 => forN un2 (fun (t19 : D × D) (s18 : Unit) => bnd (bnd (bnd (bnd (bnd (ret t19.2) fun x22 => bnd (bnd (ret a_many) fun x20 => bnd (ret []) fun ds21 => ret (x20 :: ds21)) fun ds23 => ret (x22 :: ds23)) fun ds24 => m__is_tie S (ds24 ++ [])) fun x25 => lft (tru x25)) fun b26 => ret (!b26)) fun b27 => if b27 = true then bnd (bnd (ret t19.1) fun x30 => bnd (bnd (ret (.str "tie")) fun x28 => bnd (ret []) fun ds29 => ret (x28 :: ds29)) fun ds31 => ret (x30 :: ds31)) fun ds32 => if okD_BadPicture ds32 = true then rse 0 ds32.reverse else stk else bnd (ret ()) fun _ => ret ()) ds49 ()) fun s18 => bnd (bnd (bnd (bnd (ret a_ties) fun x33 => lft (items x33)) fun ds44 => bnd (lft (mkL ds44)) fun ds45 => bnd (scP un2s (fun t34 => ret true) (fun t34 => bnd (bnd (bnd (ret t34.1) fun x39 => bnd (ret t34.2) fun x40 => lft (oMin2 x39 x40)) fun x41 => bnd (bnd (bnd (ret t34.1) fun x35 => bnd (ret t34.2) fun x36 => lft (oMax2 x35 x36)) fun x37 => bnd (ret []) fun ds38 => ret (x37 :: ds38)) fun ds42 => ret (x41 :: ds42)) fun ds43 => lft ((mkL ds43).map D.tup)) [] ds45) fun ns46 => ret ((sortP ns46).map prD)) fun ds47 => ret (.lst ds47)) fun x48 => lft (oTuple x48)
  | _ => stk
noncomputable def m__checked_marks (S : Type) : List D → MS S D
  | [a_marks, a_many] => bnd (bnd (bnd (bnd (bnd (bnd (ret a_marks) fun x8 => bnd (ret []) fun ds9 => ret (x8 :: ds9)) fun ds10 => m_is_sequence S (ds10 ++ [])) fun x11 => lft (tru x11)) fun b12 => ret (!b12)) fun b13 => if b13 = true then ret true else bnd (bnd (bnd (ret (.int 1)) fun x2 => bnd (bnd (ret a_marks) fun x1 => lft (oLen x1)) fun x3 => bnd (lft ((oLe x2 x3).bind asB)) fun k4 => if k4 = true then bnd (ret (.int 4)) fun x5 => lft (oLe x3 x5) else ret (.bl false)) fun x6 => lft (asB x6)) fun b7 => ret (!b7)) fun b14 => if b14 = true then bnd (bnd (ret (.int 0)) fun x17 => bnd (bnd (ret (.str "marks")) fun x15 => bnd (ret []) fun ds16 => ret (x15 :: ds16)) fun ds18 => ret (x17 :: ds18)) fun ds19 => if okD_BadPicture ds19 = true then rse 0 ds19.reverse else stk else bnd (bnd (bnd (ret a_marks) fun x50 => lft ((items x50).map (numb 0))) fun ds49 => forN un2 (fun (t22 : D × D) (s21 : Unit) => bnd (bnd (bnd (bnd (bnd (bnd (ret t22.2) fun x36 => bnd (bnd (ret (.int 0)) fun x34 => bnd (bnd (bnd (ret a_many) fun x30 => bnd (ret (.int 1)) fun x31 => lft (oSub x30 x31)) fun x32 => bnd (ret []) fun ds33 => ret (x32 :: ds33)) fun ds35 => ret (x34 :: ds35)) fun ds37 => ret (x36 :: ds37)) fun ds38 => m_is_whole S (ds38 ++ [])) fun x39 => lft (tru x39)) fun b40 => ret (!b40)) fun b41 => if b41 = true then ret true else bnd (bnd (ret t22.2) fun x27 => bnd (bnd (ret a_marks) fun x24 => bnd (ret none) fun lo25 => bnd (bnd (ret t22.1) fun x23 => lft (oInt? x23)) fun hi26 => lft (oSl x24 lo25 hi26)) fun x28 => lft (oIn x27 x28)) fun x29 => lft (asB x29)) fun b42 => if b42 = true then bnd (bnd (ret t22.1) fun x45 => bnd (bnd (ret (.str "mark")) fun x43 => bnd (ret []) fun ds44 => ret (x43 :: ds44)) fun ds46 => ret (x45 :: ds46)) fun ds47 => if okD_BadPicture ds47 = true then rse 0 ds47.reverse else stk else bnd (ret ()) fun _ => ret ()) ds49 ()) fun s21 => bnd (ret a_marks) fun x48 => lft (oTuple x48)
  | _ => stk
noncomputable def m_Picture__len__ (S : Type) : List D → MS S D
  | [a_self] => bnd (bnd (ret a_self) fun x1 => lft (oFld 3 4 fnZ "colours" x1)) fun x2 => lft (oLen x2)
  | _ => stk
noncomputable def m_check_cell (S : Type) : List D → MS S D
  | [a_picture, a_cell] => bnd (bnd (bnd (bnd (bnd (ret a_cell) fun x8 => bnd (bnd (ret (.int 0)) fun x6 => bnd (bnd (bnd (bnd (ret a_picture) fun x1 => lenU 3 m_Picture__len__ x1) fun x2 => bnd (ret (.int 1)) fun x3 => lft (oSub x2 x3)) fun x4 => bnd (ret []) fun ds5 => ret (x4 :: ds5)) fun ds7 => ret (x6 :: ds7)) fun ds9 => ret (x8 :: ds9)) fun ds10 => m_is_whole S (ds10 ++ [])) fun x11 => lft (tru x11)) fun b12 => ret (!b12)) fun b13 => if b13 = true then bnd (bnd (ret a_cell) fun x14 => bnd (ret []) fun ds15 => ret (x14 :: ds15)) fun ds16 => if okD_NoCell ds16 = true then rse 1 ds16.reverse else stk else ret a_cell
  | _ => stk
noncomputable def m_check_mark (S : Type) : List D → MS S D
  | [a_marks, a_mark] => bnd (bnd (bnd (bnd (bnd (ret a_mark) fun x7 => bnd (bnd (ret (.int 0)) fun x5 => bnd (bnd (bnd (ret a_marks) fun x1 => bnd (ret (.int 1)) fun x2 => lft (oSub x1 x2)) fun x3 => bnd (ret []) fun ds4 => ret (x3 :: ds4)) fun ds6 => ret (x5 :: ds6)) fun ds8 => ret (x7 :: ds8)) fun ds9 => m_is_whole S (ds9 ++ [])) fun x10 => lft (tru x10)) fun b11 => ret (!b11)) fun b12 => if b12 = true then bnd (bnd (ret a_mark) fun x13 => bnd (ret []) fun ds14 => ret (x13 :: ds14)) fun ds15 => if okD_NoMark ds15 = true then rse 2 ds15.reverse else stk else ret a_mark
  | _ => stk
noncomputable def m_near_lists (S : Type) : List D → MS S D
  | [a_many, a_ties] => bnd (bnd (bnd (bnd (ret a_many) fun x2 => bnd (ret []) fun ds3 => ret (x2 :: ds3)) fun ds4 => lft (rg1 ds4)) fun ds7 => bnd (lft (mkL ds7)) fun ds8 => lcQ un1 (fun t5 => bnd (ret []) fun ds6 => lft (mkL ds6)) ds8) fun v_near_1 => bnd (bnd (bnd (ret a_ties) fun x21 => lft (items x21)) fun ds20 => forN un2s (fun (t11 : D × D) (s10 : List (List D)) => bnd (bnd (ret t11.1) fun x12 => bnd (lft (atQ s10 x12)) fun j13 => bnd (ret t11.2) fun x14 => lft (appQ s10 j13 x14)) fun qs15 => bnd (bnd (ret t11.2) fun x16 => bnd (lft (atQ qs15 x16)) fun j17 => bnd (ret t11.1) fun x18 => lft (appQ qs15 j17 x18)) fun qs19 => bnd (ret ()) fun _ => ret qs19) ds20 v_near_1) fun s10 => ret (.lst (s10.map D.lst))
  | _ => stk
noncomputable def m_neighbours_of (S : Type) : List D → MS S D
  | [a_picture, a_cell] => bnd (bnd (bnd (ret a_picture) fun x3 => bnd (bnd (ret a_cell) fun x1 => bnd (ret []) fun ds2 => ret (x1 :: ds2)) fun ds4 => ret (x3 :: ds4)) fun ds5 => m_check_cell S (ds5 ++ [])) fun _ => bnd (bnd (bnd (bnd (bnd (ret a_picture) fun x9 => lenU 3 m_Picture__len__ x9) fun x10 => bnd (bnd (bnd (ret a_picture) fun x6 => lft (oFld 3 4 fnZ "ties" x6)) fun x7 => bnd (ret []) fun ds8 => ret (x7 :: ds8)) fun ds11 => ret (x10 :: ds11)) fun ds12 => m_near_lists S (ds12 ++ [])) fun x13 => bnd (ret a_cell) fun x14 => lft (oIx x13 x14)) fun x15 => lft (oTuple x15)
  | _ => stk
noncomputable def m_Picture__init__ (S : Type) : List D → MS S (List D)
  | [a_colours, a_ties, a_marks] => bnd (bnd (bnd (ret a_colours) fun x1 => bnd (ret []) fun ds2 => ret (x1 :: ds2)) fun ds3 => m__checked_cells S (ds3 ++ [])) fun f0 => bnd (bnd (bnd (ret a_ties) fun x7 => bnd (bnd (bnd (lft (fld (fnZ 3) [f0] "colours")) fun x4 => lft (oLen x4)) fun x5 => bnd (ret []) fun ds6 => ret (x5 :: ds6)) fun ds8 => ret (x7 :: ds8)) fun ds9 => m__checked_ties S (ds9 ++ [])) fun f1 => bnd (bnd (bnd (ret a_marks) fun x13 => bnd (bnd (bnd (lft (fld (fnZ 3) [f0, f1] "colours")) fun x10 => lft (oLen x10)) fun x11 => bnd (ret []) fun ds12 => ret (x11 :: ds12)) fun ds14 => ret (x13 :: ds14)) fun ds15 => m__checked_marks S (ds15 ++ [])) fun f2 => ret [f0, f1, f2]
  | _ => stk
noncomputable def m_with_colours (S : Type) : List D → MS S D
  | [a_picture, a_colours] => bnd (bnd (bnd (bnd (bnd (ret a_colours) fun x6 => bnd (ret []) fun ds7 => ret (x6 :: ds7)) fun ds8 => m_is_sequence S (ds8 ++ [])) fun x9 => lft (tru x9)) fun b10 => if b10 = true then bnd (bnd (bnd (ret a_colours) fun x1 => lft (oLen x1)) fun x3 => bnd (bnd (ret a_picture) fun x2 => lenU 3 m_Picture__len__ x2) fun x4 => lft (oNe x3 x4)) fun x5 => lft (asB x5) else ret false) fun b11 => if b11 = true then bnd (bnd (ret (.int 0)) fun x14 => bnd (bnd (ret (.str "cells")) fun x12 => bnd (ret []) fun ds13 => ret (x12 :: ds13)) fun ds15 => ret (x14 :: ds15)) fun ds16 => if okD_BadPicture ds16 = true then rse 0 ds16.reverse else stk else bnd (bnd (ret a_colours) fun x23 => bnd (bnd (bnd (ret a_picture) fun x20 => lft (oFld 3 4 fnZ "ties" x20)) fun x21 => bnd (bnd (bnd (ret a_picture) fun x17 => lft (oFld 3 4 fnZ "marks" x17)) fun x18 => bnd (ret []) fun ds19 => ret (x18 :: ds19)) fun ds22 => ret (x21 :: ds22)) fun ds24 => ret (x23 :: ds24)) fun ds25 => bnd (m_Picture__init__ S (ds25 ++ [])) fun fs26 => ret (.obj 3 fs26)
  | _ => stk
noncomputable def m_with_marks (S : Type) : List D → MS S D
  | [a_picture, a_marks] => bnd (bnd (bnd (ret a_picture) fun x6 => lft (oFld 3 4 fnZ "colours" x6)) fun x7 => bnd (bnd (bnd (ret a_picture) fun x3 => lft (oFld 3 4 fnZ "ties" x3)) fun x4 => bnd (bnd (ret a_marks) fun x1 => bnd (ret []) fun ds2 => ret (x1 :: ds2)) fun ds5 => ret (x4 :: ds5)) fun ds8 => ret (x7 :: ds8)) fun ds9 => bnd (m_Picture__init__ S (ds9 ++ [])) fun fs10 => ret (.obj 3 fs10)
  | _ => stk
noncomputable def m__law_mixed (S : Type) : List D → MS S D
  | [a_number, a_turn] => bnd (bnd (bnd (bnd (bnd (bnd (ret a_number) fun x2 => bnd (ret (.int 69621)) fun x3 => lft (oMul x2 x3)) fun x6 => bnd (bnd (ret a_turn) fun x4 => bnd (ret (.int 7907)) fun x5 => lft (oMul x4 x5)) fun x7 => lft (oAdd x6 x7)) fun x8 => bnd (ret (.int 40503)) fun x9 => lft (oAdd x8 x9)) fun x10 => lft (oIntOf x10)) fun x11 => bnd (ret (.int 2147483647)) fun x12 => lft (oMod x11 x12)) fun v_once_1 => bnd (bnd (bnd (bnd (bnd (bnd (ret v_once_1) fun x14 => bnd (ret v_once_1) fun x15 => lft (oMul x14 x15)) fun x18 => bnd (bnd (ret a_turn) fun x16 => bnd (ret (.int 104723)) fun x17 => lft (oMul x16 x17)) fun x19 => lft (oAdd x18 x19)) fun x22 => bnd (bnd (ret v_once_1) fun x20 => bnd (ret (.int 131)) fun x21 => lft (oDiv x20 x21)) fun x23 => lft (oAdd x22 x23)) fun x24 => lft (oIntOf x24)) fun x25 => bnd (ret (.int 2147483629)) fun x26 => lft (oMod x25 x26)) fun v_twice_13 => bnd (bnd (bnd (bnd (bnd (bnd (ret v_twice_13) fun x27 => bnd (ret (.int 48271)) fun x28 => lft (oMul x27 x28)) fun x31 => bnd (bnd (ret v_once_1) fun x29 => bnd (ret (.int 7)) fun x30 => lft (oDiv x29 x30)) fun x32 => lft (oAdd x31 x32)) fun x33 => lft (oIntOf x33)) fun x34 => bnd (ret (.int 2147483579)) fun x35 => lft (oMod x34 x35)) fun x36 => lft (oIntOf x36)) fun x37 => bnd (ret (.int 32)) fun x38 => lft (oDiv x37 x38)
  | _ => stk
noncomputable def m__law_take (cells : List Int) : List D → MS Hd D
  | [a_many] => bnd (bnd (bnd (bnd (bnd (hget cells 2) fun x5 => bnd (ret (.int 0)) fun x6 => lft (oEq x5 x6)) fun x7 => lft (asB x7)) fun b8 => if b8 = true then bnd (bnd (hget cells 1) fun x2 => bnd (bnd (hget cells 0) fun x1 => lft (oLen x1)) fun x3 => lft (oLt x2 x3)) fun x4 => lft (asB x4) else ret false) fun b9 => if b9 = true then bnd (bnd (hget cells 0) fun x12 => bnd (hget cells 1) fun x13 => lft (oIx x12 x13)) fun v_cell_here_11 => bnd (bnd (bnd (hget cells 1) fun x14 => bnd (ret (.int 1)) fun x15 => lft (oAdd x14 x15)) fun x16 => hput 1 x16) fun _ => bnd (bnd (bnd (ret v_cell_here_11) fun x19 => bnd (bnd (ret (.int 10)) fun x17 => bnd (ret (.int 18)) fun x18 => lft (oPow x17 x18)) fun x20 => lft (oLt x19 x20)) fun x21 => lft (asB x21)) fun b22 => if b22 = true then bnd (bnd (bnd (bnd (bnd (bnd (bnd (ret v_cell_here_11) fun x25 => lft (oIntOf x25)) fun x26 => bnd (ret (.int 2147483647)) fun x27 => lft (oMod x26 x27)) fun x28 => bnd (bnd (hget cells 1) fun x23 => bnd (ret []) fun ds24 => ret (x23 :: ds24)) fun ds29 => ret (x28 :: ds29)) fun ds30 => m__law_mixed Hd (ds30 ++ [])) fun x31 => lft (oIntOf x31)) fun x32 => bnd (ret a_many) fun x33 => lft (oMod x32 x33)) (fun d => ret (Fr.rt d)) else bnd (bnd (ret v_cell_here_11) fun x34 => hput 2 x34) fun _ => bnd (ret ()) fun _ => ret (Fr.nx ()) else bnd (ret ()) fun _ => ret (Fr.nx ())) (frD fun s10 => bnd (bnd (bnd (hget cells 2) fun x35 => bnd (ret (.int 0)) fun x36 => lft (oGt x35 x36)) fun x37 => lft (asB x37)) fun b38 => if b38 = true then bnd (hget cells 2) fun v_rest_39 => bnd (bnd (bnd (bnd (ret v_rest_39) fun x40 => lft (oIntOf x40)) fun x41 => bnd (ret a_many) fun x42 => lft (oDiv x41 x42)) fun x43 => hput 2 x43) fun _ => bnd (bnd (ret v_rest_39) fun x44 => lft (oIntOf x44)) fun x45 => bnd (ret a_many) fun x46 => lft (oMod x45 x46) else bnd (bnd (bnd (bnd (bnd (hget cells 3) fun x47 => bnd (ret (.int 1)) fun x48 => lft (oAdd x47 x48)) fun x49 => lft (oIntOf x49)) fun x50 => bnd (ret (.int 2147483587)) fun x51 => lft (oMod x50 x51)) fun x52 => hput 3 x52) fun _ => bnd (bnd (bnd (bnd (hget cells 3) fun x55 => bnd (bnd (hget cells 1) fun x53 => bnd (ret []) fun ds54 => ret (x53 :: ds54)) fun ds56 => ret (x55 :: ds56)) fun ds57 => m__law_mixed Hd (ds57 ++ [])) fun x58 => lft (oIntOf x58)) fun x59 => bnd (ret a_many) fun x60 => lft (oMod x59 x60))
  | _ => stk
noncomputable def m__law_colour (cells : List Int) : List D → MS Hd D
  | [] => bnd (bnd (bnd (ret (.int 16)) fun x2 => bnd (ret []) fun ds3 => ret (x2 :: ds3)) fun ds4 => m__law_take cells (ds4 ++ [])) fun v_kind_1 => bnd (bnd (bnd (ret v_kind_1) fun x5 => bnd (ret (.int 0)) fun x6 => lft (oEq x5 x6)) fun x7 => lft (asB x7)) fun b21 => if b21 = true then bnd (bnd (ret (.int 100)) fun x8 => bnd (ret []) fun ds9 => ret (x8 :: ds9)) fun ds10 => m__law_take cells (ds10 ++ []) else bnd (bnd (bnd (ret v_kind_1) fun x11 => bnd (ret (.int 3)) fun x12 => lft (oLt x11 x12)) fun x13 => lft (asB x13)) fun b20 => if b20 = true then bnd (bnd (ret (.int 6)) fun x14 => bnd (ret []) fun ds15 => ret (x14 :: ds15)) fun ds16 => m__law_take cells (ds16 ++ []) else bnd (bnd (ret (.int 3)) fun x17 => bnd (ret []) fun ds18 => ret (x17 :: ds18)) fun ds19 => m__law_take cells (ds19 ++ [])
  | _ => stk
noncomputable def m__law_ties (cells : List Int) : List D → MS Hd D
  | [a_many] => bnd (bnd (bnd (ret (.int 5)) fun x2 => bnd (ret []) fun ds3 => ret (x2 :: ds3)) fun ds4 => m__law_take cells (ds4 ++ [])) fun v_kind_1 => bnd (bnd (ret []) fun ds6 => lft (mkL ds6)) fun v_ties_here_5 => bnd (bnd (bnd (bnd (ret (.int 1)) fun x130 => bnd (bnd (ret a_many) fun x128 => bnd (ret []) fun ds129 => ret (x128 :: ds129)) fun ds131 => ret (x130 :: ds131)) fun ds132 => lft (rg2 ds132)) fun ds127 => forN un1 (fun (t13 : D) (s12 : List D) => bnd (bnd (bnd (ret v_kind_1) fun x14 => bnd (ret (.int 2)) fun x15 => lft (oLt x14 x15)) fun x16 => lft (asB x16)) fun b17 => if b17 = true then bnd (bnd (bnd (bnd (bnd (ret t13) fun x21 => bnd (ret (.int 1)) fun x22 => lft (oSub x21 x22)) fun x23 => bnd (bnd (ret t13) fun x19 => bnd (ret []) fun ds20 => ret (x19 :: ds20)) fun ds24 => ret (x23 :: ds24)) fun ds25 => lft ((mkL ds25).map D.tup)) fun x26 => lft (app1 s12 x26)) fun es18 => bnd (ret ()) fun _ => ret es18 else bnd (bnd (bnd (ret v_kind_1) fun x28 => bnd (ret (.int 2)) fun x29 => lft (oEq x28 x29)) fun x30 => lft (asB x30)) fun b31 => if b31 = true then bnd (bnd (bnd (bnd (bnd (bnd (ret t13) fun x35 => bnd (ret (.int 2)) fun x36 => lft (oSub x35 x36)) fun x37 => bnd (ret (.int 0)) fun x38 => lft (oMax2 x37 x38)) fun x39 => bnd (bnd (ret t13) fun x33 => bnd (ret []) fun ds34 => ret (x33 :: ds34)) fun ds40 => ret (x39 :: ds40)) fun ds41 => lft ((mkL ds41).map D.tup)) fun x42 => lft (app1 s12 x42)) fun es32 => bnd (ret ()) fun _ => ret es32 else bnd (bnd (bnd (bnd (bnd (bnd (ret t13) fun x47 => bnd (ret []) fun ds48 => ret (x47 :: ds48)) fun ds49 => m__law_take cells (ds49 ++ [])) fun x50 => bnd (bnd (ret t13) fun x45 => bnd (ret []) fun ds46 => ret (x45 :: ds46)) fun ds51 => ret (x50 :: ds51)) fun ds52 => lft ((mkL ds52).map D.tup)) fun x53 => lft (app1 s12 x53)) fun es44 => bnd (ret ()) fun _ => ret es44) ds127 v_ties_here_5) fun s12 => bnd (bnd (bnd (bnd (bnd (ret v_kind_1) fun x58 => bnd (ret (.int 1)) fun x59 => lft (oEq x58 x59)) fun x60 => lft (asB x60)) fun b61 => if b61 = true then bnd (bnd (ret a_many) fun x55 => bnd (ret (.int 2)) fun x56 => lft (oGt x55 x56)) fun x57 => lft (asB x57) else ret false) fun b62 => if b62 = true then bnd (bnd (bnd (bnd (bnd (ret a_many) fun x67 => bnd (ret (.int 1)) fun x68 => lft (oSub x67 x68)) fun x69 => bnd (bnd (ret (.int 0)) fun x65 => bnd (ret []) fun ds66 => ret (x65 :: ds66)) fun ds70 => ret (x69 :: ds70)) fun ds71 => lft ((mkL ds71).map D.tup)) fun x72 => lft (app1 s12 x72)) fun es64 => bnd (ret ()) fun _ => ret es64 else bnd (ret ()) fun _ => ret s12) fun s63 => bnd (bnd (bnd (bnd (ret v_kind_1) fun x74 => bnd (ret (.int 3)) fun x75 => lft (oGt x74 x75)) fun x76 => lft (asB x76)) fun b77 => if b77 = true then bnd (bnd (bnd (bnd (bnd (bnd (ret (.int 4)) fun x108 => bnd (ret []) fun ds109 => ret (x108 :: ds109)) fun ds110 => m__law_take cells (ds110 ++ [])) fun x111 => bnd (ret []) fun ds112 => ret (x111 :: ds112)) fun ds113 => lft (rg1 ds113)) fun ds107 => forN un1 (fun (t86 : D) (s85 : List D) => bnd (bnd (bnd (ret a_many) fun x88 => bnd (ret []) fun ds89 => ret (x88 :: ds89)) fun ds90 => m__law_take cells (ds90 ++ [])) fun v_one_87 => bnd (bnd (bnd (ret a_many) fun x92 => bnd (ret []) fun ds93 => ret (x92 :: ds93)) fun ds94 => m__law_take cells (ds94 ++ [])) fun v_other_91 => bnd (bnd (bnd (ret v_one_87) fun x95 => bnd (ret v_other_91) fun x96 => lft (oNe x95 x96)) fun x97 => lft (asB x97)) fun b98 => if b98 = true then bnd (bnd (bnd (bnd (ret v_one_87) fun x102 => bnd (bnd (ret v_other_91) fun x100 => bnd (ret []) fun ds101 => ret (x100 :: ds101)) fun ds103 => ret (x102 :: ds103)) fun ds104 => lft ((mkL ds104).map D.tup)) fun x105 => lft (app1 s85 x105)) fun es99 => bnd (ret ()) fun _ => ret es99 else bnd (ret ()) fun _ => ret s85) ds107 s63) fun s85 => bnd (ret ()) fun _ => ret s85 else bnd (ret ()) fun _ => ret s63) fun s78 => bnd (bnd (bnd (bnd (bnd (bnd (ret (.int 8)) fun x114 => bnd (ret []) fun ds115 => ret (x114 :: ds115)) fun ds116 => m__law_take cells (ds116 ++ [])) fun x117 => bnd (ret (.int 0)) fun x118 => lft (oEq x117 x118)) fun x119 => lft (asB x119)) fun b120 => if b120 = true then bnd (bnd (ret (.lst s78)) fun x124 => bnd (bnd (ret (.int 1)) fun x123 => lft (oInt? x123)) fun lo125 => bnd (ret none) fun hi126 => lft (oSlL x124 lo125 hi126)) fun v_ties_here_122 => bnd (ret ()) fun _ => ret v_ties_here_122 else bnd (ret ()) fun _ => ret s78) fun s121 => ret (.lst s121)
  | _ => stk
noncomputable def m__law_marks (cells : List Int) : List D → MS Hd D
  | [a_many, a_wanted] => bnd (bnd (ret []) fun ds2 => lft (mkL ds2)) fun v_marks_here_1 => bnd (bnd (bnd (bnd (bnd (ret a_wanted) fun x37 => bnd (ret a_many) fun x38 => lft (oMin2 x37 x38)) fun x39 => bnd (ret []) fun ds40 => ret (x39 :: ds40)) fun ds41 => lft (rg1 ds41)) fun ds36 => forN un1 (fun (t9 : D) (s8 : List D) => bnd (bnd (bnd (ret a_many) fun x11 => bnd (ret []) fun ds12 => ret (x11 :: ds12)) fun ds13 => m__law_take cells (ds13 ++ [])) fun v_start_10 => bnd (bnd (bnd (bnd (ret a_many) fun x33 => bnd (ret []) fun ds34 => ret (x33 :: ds34)) fun ds35 => lft (rg1 ds35)) fun ds32 => forF un1 (fun (t18 : D) (s17 : List D) => bnd (bnd (bnd (bnd (ret v_start_10) fun x20 => bnd (ret t18) fun x21 => lft (oAdd x20 x21)) fun x22 => lft (oIntOf x22)) fun x23 => bnd (ret a_many) fun x24 => lft (oMod x23 x24)) fun v_cell_here_19 => bnd (bnd (bnd (ret v_cell_here_19) fun x25 => bnd (ret (.lst s17)) fun x26 => lft (oNin x25 x26)) fun x27 => lft (asB x27)) fun b28 => if b28 = true then bnd (bnd (ret v_cell_here_19) fun x30 => lft (app1 s17 x30)) fun es29 => bnd (ret ()) fun _ => ret (Fl.bk es29) else bnd (ret ()) fun _ => ret (Fl.nx s17)) ds32 s8) (frN fun s17 => bnd (ret ()) fun _ => ret s17)) ds36 v_marks_here_1) fun s8 => ret (.lst s8)
  | _ => stk
noncomputable def m__law_picture (cells : List Int) : List D → MS Hd (List D)
  | [a_most, a_wanted] => bnd (bnd (ret (.int 2)) fun x7 => bnd (bnd (bnd (bnd (ret a_most) fun x2 => bnd (ret (.int 1)) fun x3 => lft (oSub x2 x3)) fun x4 => bnd (ret []) fun ds5 => ret (x4 :: ds5)) fun ds6 => m__law_take cells (ds6 ++ [])) fun x8 => lft (oAdd x7 x8)) fun v_many_1 => bnd (bnd (bnd (bnd (bnd (bnd (ret v_many_1) fun x21 => bnd (ret []) fun ds22 => ret (x21 :: ds22)) fun ds23 => lft (rg1 ds23)) fun ds26 => bnd (lft (mkL ds26)) fun ds27 => lcM un1 (fun t24 => ret true) (fun t24 => bnd (ret []) fun ds25 => m__law_colour cells (ds25 ++ [])) ds27) fun ds28 => ret (.lst ds28)) fun x29 => bnd (bnd (bnd (bnd (ret v_many_1) fun x16 => bnd (ret []) fun ds17 => ret (x16 :: ds17)) fun ds18 => m__law_ties cells (ds18 ++ [])) fun x19 => bnd (bnd (bnd (bnd (ret v_many_1) fun x11 => bnd (bnd (ret a_wanted) fun x9 => bnd (ret []) fun ds10 => ret (x9 :: ds10)) fun ds12 => ret (x11 :: ds12)) fun ds13 => m__law_marks cells (ds13 ++ [])) fun x14 => bnd (ret []) fun ds15 => ret (x14 :: ds15)) fun ds20 => ret (x19 :: ds20)) fun ds30 => ret (x29 :: ds30)) fun ds31 => lft (mkL ds31)
  | _ => stk
noncomputable def m__law_near (S : Type) : List D → MS S D
  | [a_many, a_ties_here] => bnd (bnd (bnd (bnd (ret a_many) fun x2 => bnd (ret []) fun ds3 => ret (x2 :: ds3)) fun ds4 => lft (rg1 ds4)) fun ds7 => bnd (lft (mkL ds7)) fun ds8 => lcQ un1 (fun t5 => bnd (ret []) fun ds6 => lft (mkL ds6)) ds8) fun v_near_here_1 => bnd (bnd (bnd (ret a_ties_here) fun x29 => lft (items x29)) fun ds28 => forN un1 (fun (t11 : D) (s10 : List (List D)) => bnd (bnd (bnd (ret t11) fun x12 => bnd (ret (.int 0)) fun x13 => lft (oIx x12 x13)) fun x16 => bnd (lft (atQ s10 x16)) fun j17 => bnd (bnd (ret t11) fun x14 => bnd (ret (.int 1)) fun x15 => lft (oIx x14 x15)) fun x18 => lft (appQ s10 j17 x18)) fun qs19 => bnd (bnd (bnd (ret t11) fun x20 => bnd (ret (.int 1)) fun x21 => lft (oIx x20 x21)) fun x24 => bnd (lft (atQ qs19 x24)) fun j25 => bnd (bnd (ret t11) fun x22 => bnd (ret (.int 0)) fun x23 => lft (oIx x22 x23)) fun x26 => lft (appQ qs19 j25 x26)) fun qs27 => bnd (ret ()) fun _ => ret qs27) ds28 v_near_here_1) fun s10 => ret (.lst (s10.map D.lst))
  | _ => stk
noncomputable def m__law_tuples : Nat → (S : Type) → List D → MS S D
  | 0, _, _ => stk
  | k + 1, S, [a_thing] => bnd (bnd (bnd (ret a_thing) fun x1 => lft (oIsA .tuple x1)) fun x2 => lft (tru x2)) fun b3 => if b3 = true then bnd (bnd (bnd (bnd (ret a_thing) fun x4 => lft (items x4)) fun ds11 => bnd (lft (mkL ds11)) fun ds12 => lcM un1 (fun t5 => bnd (bnd (bnd (bnd (ret t5) fun x6 => bnd (ret []) fun ds7 => ret (x6 :: ds7)) fun ds8 => m__law_tuples k S (ds8 ++ [])) fun x9 => lft (tru x9)) fun b10 => ret (!b10)) (fun t5 => ret (.int 1)) ds12) fun ds13 => ret (.lst ds13)) fun x14 => lft ((tru x14).map fun b => .bl (!b)) else bnd (bnd (ret a_thing) fun x21 => bnd (ret .non) fun x22 => lft (oIs x21 x22)) fun x23 => bnd (lft (asB x23)) fun b24 => if b24 = true then ret (.bl true) else bnd (bnd (ret a_thing) fun x18 => lft (oIsA .int x18)) fun x19 => bnd (lft (asB x19)) fun b20 => if b20 = true then bnd (bnd (ret a_thing) fun x15 => lft (oIsA .bool x15)) fun x16 => bnd (lft (asB x16)) fun b17 => ret (.bl (!b17)) else ret (.bl false)
  | _, _, _ => stk
noncomputable def m__law_made (S : Type) : List D → MS S D
  | [a_picture_here] => bnd (bnd (bnd (bnd (bnd (ret a_picture_here) fun x13 => bnd (ret (.int 0)) fun x14 => lft (oIx x13 x14)) fun x15 => lft (items x15)) fun ds16 => ret (.lst ds16)) fun x17 => bnd (bnd (bnd (bnd (bnd (ret a_picture_here) fun x7 => bnd (ret (.int 1)) fun x8 => lft (oIx x7 x8)) fun x9 => lft (items x9)) fun ds10 => ret (.lst ds10)) fun x11 => bnd (bnd (bnd (bnd (bnd (ret a_picture_here) fun x1 => bnd (ret (.int 2)) fun x2 => lft (oIx x1 x2)) fun x3 => lft (items x3)) fun ds4 => ret (.lst ds4)) fun x5 => bnd (ret []) fun ds6 => ret (x5 :: ds6)) fun ds12 => ret (x11 :: ds12)) fun ds18 => ret (x17 :: ds18)) fun ds19 => bnd (m_Picture__init__ S (ds19 ++ [])) fun fs20 => ret (.obj 3 fs20)
  | _ => stk
noncomputable def m__law_odd (cells : List Int) : List D → MS Hd D
  | [a_bound] => bnd (bnd (bnd (ret (.int 9)) fun x2 => bnd (ret []) fun ds3 => ret (x2 :: ds3)) fun ds4 => m__law_take cells (ds4 ++ [])) fun v_kind_1 => bnd (bnd (bnd (ret v_kind_1) fun x5 => bnd (ret (.int 0)) fun x6 => lft (oEq x5 x6)) fun x7 => lft (asB x7)) fun b8 => if b8 = true then bnd (ret a_bound) fun x14 => bnd (bnd (bnd (bnd (ret (.int 10)) fun x9 => bnd (ret (.int 12)) fun x10 => lft (oPow x9 x10)) fun x11 => bnd (ret []) fun ds12 => ret (x11 :: ds12)) fun ds13 => m__law_take cells (ds13 ++ [])) fun x15 => lft (oAdd x14 x15) else bnd (bnd (bnd (ret v_kind_1) fun x16 => bnd (ret (.int 1)) fun x17 => lft (oEq x16 x17)) fun x18 => lft (asB x18)) fun b19 => if b19 = true then bnd (bnd (ret (.int 1)) fun x20 => lft (oNeg x20)) fun x26 => bnd (bnd (bnd (bnd (ret (.int 10)) fun x21 => bnd (ret (.int 12)) fun x22 => lft (oPow x21 x22)) fun x23 => bnd (ret []) fun ds24 => ret (x23 :: ds24)) fun ds25 => m__law_take cells (ds25 ++ [])) fun x27 => lft (oSub x26 x27) else bnd (bnd (bnd (bnd (ret (.bl true)) fun x45 => bnd (bnd (ret (.bl false)) fun x43 => bnd (bnd (ret .non) fun x41 => bnd (bnd (ret (.str "1")) fun x39 => bnd (bnd (bnd (bnd (ret (.int 0)) fun x34 => bnd (ret []) fun ds35 => ret (x34 :: ds35)) fun ds36 => lft ((mkL ds36).map D.tup)) fun x37 => bnd (bnd (ret (.str "00")) fun x32 => bnd (bnd (ret a_bound) fun x30 => bnd (bnd (ret (.str "")) fun x28 => bnd (ret []) fun ds29 => ret (x28 :: ds29)) fun ds31 => ret (x30 :: ds31)) fun ds33 => ret (x32 :: ds33)) fun ds38 => ret (x37 :: ds38)) fun ds40 => ret (x39 :: ds40)) fun ds42 => ret (x41 :: ds42)) fun ds44 => ret (x43 :: ds44)) fun ds46 => ret (x45 :: ds46)) fun ds47 => lft (mkL ds47)) fun ds48 => ret (.lst ds48)) fun x55 => bnd (bnd (bnd (bnd (ret v_kind_1) fun x49 => bnd (ret (.int 8)) fun x50 => lft (oLt x49 x50)) fun x51 => lft (asB x51)) fun b54 => if b54 = true then bnd (ret v_kind_1) fun x52 => bnd (ret (.int 1)) fun x53 => lft (oSub x52 x53) else ret (.int 6)) fun x56 => lft (oIx x55 x56)
  | _ => stk
noncomputable def m__law_rid (cells : List Int) : List D → MS Hd D
  | [] => bnd (bnd (bnd (bnd (ret .non) fun x12 => bnd (bnd (ret (.int 3)) fun x10 => bnd (bnd (ret (.str "ab")) fun x8 => bnd (bnd (ret (.bl true)) fun x6 => bnd (bnd (ret (.dct [(.inl 0, .int 1)])) fun x4 => bnd (bnd (bnd (ret (.int 1)) fun x1 => lft (oNeg x1)) fun x2 => bnd (ret []) fun ds3 => ret (x2 :: ds3)) fun ds5 => ret (x4 :: ds5)) fun ds7 => ret (x6 :: ds7)) fun ds9 => ret (x8 :: ds9)) fun ds11 => ret (x10 :: ds11)) fun ds13 => ret (x12 :: ds13)) fun ds14 => lft (mkL ds14)) fun ds15 => ret (.lst ds15)) fun x19 => bnd (bnd (bnd (ret (.int 6)) fun x16 => bnd (ret []) fun ds17 => ret (x16 :: ds17)) fun ds18 => m__law_take cells (ds18 ++ [])) fun x20 => lft (oIx x19 x20)
  | _ => stk
noncomputable def m__law_least (S : Type) : List D → MS S D
  | [a_ties_here] => bnd (bnd (bnd (bnd (bnd (bnd (ret a_ties_here) fun x1 => lft (items x1)) fun ds20 => bnd (lft (mkL ds20)) fun ds21 => lcM un1 (fun t2 => ret true) (fun t2 => bnd (bnd (bnd (bnd (ret t2) fun x11 => bnd (ret (.int 0)) fun x12 => lft (oIx x11 x12)) fun x15 => bnd (bnd (ret t2) fun x13 => bnd (ret (.int 1)) fun x14 => lft (oIx x13 x14)) fun x16 => lft (oMin2 x15 x16)) fun x17 => bnd (bnd (bnd (bnd (ret t2) fun x3 => bnd (ret (.int 0)) fun x4 => lft (oIx x3 x4)) fun x7 => bnd (bnd (ret t2) fun x5 => bnd (ret (.int 1)) fun x6 => lft (oIx x5 x6)) fun x8 => lft (oMax2 x7 x8)) fun x9 => bnd (ret []) fun ds10 => ret (x9 :: ds10)) fun ds18 => ret (x17 :: ds18)) fun ds19 => lft ((mkL ds19).map D.tup)) ds21) fun ds22 => ret (.lst ds22)) fun x23 => lft (oSortSetP x23)) fun ds24 => ret (.lst ds24)) fun x25 => lft (oTuple x25)
  | _ => stk
noncomputable def m__law_same (S : Type) : List D → MS S D
  | [a_told, a_picture_here] => bnd (bnd (bnd (bnd (bnd (ret a_told) fun x16 => lft (oIsC 3 4 3 x16)) fun x17 => lft (tru x17)) fun b18 => ret (!b18)) fun b19 => if b19 = true then ret true else bnd (bnd (bnd (bnd (bnd (bnd (bnd (ret a_told) fun x7 => lft (oFld 3 4 fnZ "colours" x7)) fun x8 => bnd (bnd (bnd (ret a_told) fun x4 => lft (oFld 3 4 fnZ "ties" x4)) fun x5 => bnd (bnd (bnd (ret a_told) fun x1 => lft (oFld 3 4 fnZ "marks" x1)) fun x2 => bnd (ret []) fun ds3 => ret (x2 :: ds3)) fun ds6 => ret (x5 :: ds6)) fun ds9 => ret (x8 :: ds9)) fun ds10 => lft ((mkL ds10).map D.tup)) fun x11 => bnd (ret []) fun ds12 => ret (x11 :: ds12)) fun ds13 => m__law_tuples 5 S (ds13 ++ [])) fun x14 => lft (tru x14)) fun b15 => ret (!b15)) fun b20 => if b20 = true then ret (.bl false) else bnd (bnd (bnd (ret a_told) fun x37 => lft (oFld 3 4 fnZ "colours" x37)) fun x41 => bnd (bnd (bnd (ret a_picture_here) fun x38 => bnd (ret (.int 0)) fun x39 => lft (oIx x38 x39)) fun x40 => lft (oTuple x40)) fun x42 => lft (oEq x41 x42)) fun x43 => bnd (lft (asB x43)) fun b44 => if b44 = true then bnd (bnd (bnd (ret a_told) fun x27 => lft (oFld 3 4 fnZ "ties" x27)) fun x33 => bnd (bnd (bnd (bnd (ret a_picture_here) fun x28 => bnd (ret (.int 1)) fun x29 => lft (oIx x28 x29)) fun x30 => bnd (ret []) fun ds31 => ret (x30 :: ds31)) fun ds32 => m__law_least S (ds32 ++ [])) fun x34 => lft (oEq x33 x34)) fun x35 => bnd (lft (asB x35)) fun b36 => if b36 = true then bnd (bnd (ret a_told) fun x21 => lft (oFld 3 4 fnZ "marks" x21)) fun x25 => bnd (bnd (bnd (ret a_picture_here) fun x22 => bnd (ret (.int 2)) fun x23 => lft (oIx x22 x23)) fun x24 => lft (oTuple x24)) fun x26 => lft (oEq x25 x26) else ret (.bl false) else ret (.bl false)
  | _ => stk
noncomputable def m__law_cell (S : Type) : List D → MS S D
  | [a_told, a_cell_here] => bnd (tryM 3 (bnd (bnd (bnd (ret a_told) fun x5 => bnd (bnd (ret a_cell_here) fun x3 => bnd (ret []) fun ds4 => ret (x3 :: ds4)) fun ds6 => ret (x5 :: ds6)) fun ds7 => m_check_cell S (ds7 ++ [])) fun v_found_2 => bnd (ret ()) fun _ => ret v_found_2) [(1, fun fs8 => bnd (bnd (bnd (bnd (ret (.str "refused")) fun x12 => bnd (bnd (lft (fld (fnZ 1) fs8 "cell")) fun x10 => bnd (ret []) fun ds11 => ret (x10 :: ds11)) fun ds13 => ret (x12 :: ds13)) fun ds14 => lft (mkL ds14)) fun ds15 => ret (.lst ds15)) fun v_found_9 => bnd (ret ()) fun _ => ret v_found_9)]) fun s1 => ret s1
  | _ => stk
noncomputable def m__law_near_of (S : Type) : List D → MS S D
  | [a_told, a_cell_here] => bnd (tryM 3 (bnd (bnd (bnd (ret a_told) fun x5 => bnd (bnd (ret a_cell_here) fun x3 => bnd (ret []) fun ds4 => ret (x3 :: ds4)) fun ds6 => ret (x5 :: ds6)) fun ds7 => m_neighbours_of S (ds7 ++ [])) fun v_found_2 => bnd (ret ()) fun _ => ret v_found_2) [(1, fun fs8 => bnd (bnd (bnd (bnd (ret (.str "refused")) fun x12 => bnd (bnd (lft (fld (fnZ 1) fs8 "cell")) fun x10 => bnd (ret []) fun ds11 => ret (x10 :: ds11)) fun ds13 => ret (x12 :: ds13)) fun ds14 => lft (mkL ds14)) fun ds15 => ret (.lst ds15)) fun v_found_9 => bnd (ret ()) fun _ => ret v_found_9)]) fun s1 => ret s1
  | _ => stk
noncomputable def m__law_mark (S : Type) : List D → MS S D
  | [a_marks_here, a_mark_here] => bnd (tryM 3 (bnd (bnd (bnd (ret a_marks_here) fun x5 => bnd (bnd (ret a_mark_here) fun x3 => bnd (ret []) fun ds4 => ret (x3 :: ds4)) fun ds6 => ret (x5 :: ds6)) fun ds7 => m_check_mark S (ds7 ++ [])) fun v_found_2 => bnd (ret ()) fun _ => ret v_found_2) [(2, fun fs8 => bnd (bnd (bnd (bnd (ret (.str "refused")) fun x12 => bnd (bnd (lft (fld (fnZ 2) fs8 "mark")) fun x10 => bnd (ret []) fun ds11 => ret (x10 :: ds11)) fun ds13 => ret (x12 :: ds13)) fun ds14 => lft (mkL ds14)) fun ds15 => ret (.lst ds15)) fun v_found_9 => bnd (ret ()) fun _ => ret v_found_9)]) fun s1 => ret s1
  | _ => stk
noncomputable def m__law_new (S : Type) : List D → MS S D
  | [a_told, a_colours] => bnd (tryM 3 (bnd (bnd (bnd (ret a_told) fun x5 => bnd (bnd (ret a_colours) fun x3 => bnd (ret []) fun ds4 => ret (x3 :: ds4)) fun ds6 => ret (x5 :: ds6)) fun ds7 => m_with_colours S (ds7 ++ [])) fun v_found_2 => bnd (ret ()) fun _ => ret v_found_2) [(0, fun fs8 => bnd (bnd (bnd (bnd (lft (fld (fnZ 0) fs8 "index")) fun x12 => bnd (bnd (lft (fld (fnZ 0) fs8 "what")) fun x10 => bnd (ret []) fun ds11 => ret (x10 :: ds11)) fun ds13 => ret (x12 :: ds13)) fun ds14 => lft (mkL ds14)) fun ds15 => ret (.lst ds15)) fun v_found_9 => bnd (ret ()) fun _ => ret v_found_9)]) fun s1 => ret s1
  | _ => stk
noncomputable def m__law_moved (S : Type) : List D → MS S D
  | [a_told, a_marks_here] => bnd (tryM 3 (bnd (bnd (bnd (ret a_told) fun x5 => bnd (bnd (ret a_marks_here) fun x3 => bnd (ret []) fun ds4 => ret (x3 :: ds4)) fun ds6 => ret (x5 :: ds6)) fun ds7 => m_with_marks S (ds7 ++ [])) fun v_found_2 => bnd (ret ()) fun _ => ret v_found_2) [(0, fun fs8 => bnd (bnd (bnd (bnd (lft (fld (fnZ 0) fs8 "index")) fun x12 => bnd (bnd (lft (fld (fnZ 0) fs8 "what")) fun x10 => bnd (ret []) fun ds11 => ret (x10 :: ds11)) fun ds13 => ret (x12 :: ds13)) fun ds14 => lft (mkL ds14)) fun ds15 => ret (.lst ds15)) fun v_found_9 => bnd (ret ()) fun _ => ret v_found_9)]) fun s1 => ret s1
  | _ => stk
noncomputable def m_law (cells : List Int) : MS Hd D := bnd (bnd (bnd (ret (.int 9)) fun x9 => bnd (bnd (bnd (ret (.int 1)) fun x5 => bnd (bnd (bnd (ret (.int 4)) fun x2 => bnd (ret []) fun ds3 => ret (x2 :: ds3)) fun ds4 => m__law_take cells (ds4 ++ [])) fun x6 => lft (oAdd x5 x6)) fun x7 => bnd (ret []) fun ds8 => ret (x7 :: ds8)) fun ds10 => ret (x9 :: ds10)) fun ds11 => m__law_picture cells (ds11 ++ [])) fun v_picture_here_1 => bnd (bnd (bnd (bnd (bnd (bnd (ret (.int 8)) fun x12 => bnd (ret []) fun ds13 => ret (x12 :: ds13)) fun ds14 => m__law_take cells (ds14 ++ [])) fun x15 => bnd (ret (.int 0)) fun x16 => lft (oEq x15 x16)) fun x17 => lft (asB x17)) fun b18 => if b18 = true then bnd (bnd (bnd (bnd (ret (.lst v_picture_here_1)) fun x20 => bnd (ret (.int 0)) fun x21 => lft (oIx x20 x21)) fun x33 => bnd (bnd (bnd (bnd (bnd (ret (.int 5)) fun x22 => bnd (ret []) fun ds23 => ret (x22 :: ds23)) fun ds24 => lft (mkL ds24)) fun ds25 => ret (.lst ds25)) fun x31 => bnd (bnd (ret (.int 700)) fun x29 => bnd (bnd (bnd (ret (.lst v_picture_here_1)) fun x26 => bnd (ret (.int 0)) fun x27 => lft (oIx x26 x27)) fun x28 => lft (oLen x28)) fun x30 => lft (oSub x29 x30)) fun x32 => lft (oMul x31 x32)) fun x34 => lft (oAdd x33 x34)) fun x35 => bnd (ret (.int 0)) fun x36 => lft (set1 v_picture_here_1 x36 x35)) fun es37 => bnd (bnd (bnd (bnd (ret (.lst es37)) fun x38 => bnd (ret (.int 1)) fun x39 => lft (oIx x38 x39)) fun x59 => bnd (bnd (bnd (bnd (bnd (bnd (ret (.int 699)) fun x52 => bnd (bnd (ret (.int 0)) fun x50 => bnd (ret []) fun ds51 => ret (x50 :: ds51)) fun ds53 => ret (x52 :: ds53)) fun ds54 => lft ((mkL ds54).map D.tup)) fun x55 => bnd (bnd (bnd (bnd (bnd (bnd (ret (.int 699)) fun x42 => bnd (ret []) fun ds43 => ret (x42 :: ds43)) fun ds44 => m__law_take cells (ds44 ++ [])) fun x45 => bnd (bnd (ret (.int 699)) fun x40 => bnd (ret []) fun ds41 => ret (x40 :: ds41)) fun ds46 => ret (x45 :: ds46)) fun ds47 => lft ((mkL ds47).map D.tup)) fun x48 => bnd (ret []) fun ds49 => ret (x48 :: ds49)) fun ds56 => ret (x55 :: ds56)) fun ds57 => lft (mkL ds57)) fun ds58 => ret (.lst ds58)) fun x60 => lft (oAdd x59 x60)) fun x61 => bnd (ret (.int 1)) fun x62 => lft (set1 es37 x62 x61)) fun es63 => bnd (ret ()) fun _ => ret es63 else bnd (ret ()) fun _ => ret v_picture_here_1) fun s19 => bnd (bnd (bnd (ret (.lst s19)) fun x65 => bnd (ret (.int 0)) fun x66 => lft (oIx x65 x66)) fun x67 => lft (oLen x67)) fun v_many_64 => bnd (bnd (bnd (ret (.lst s19)) fun x70 => bnd (ret []) fun ds71 => ret (x70 :: ds71)) fun ds72 => m__law_made Hd (ds72 ++ [])) fun v_told_69 => bnd (bnd (bnd (ret v_many_64) fun x81 => bnd (bnd (bnd (bnd (bnd (ret (.lst s19)) fun x74 => bnd (ret (.int 1)) fun x75 => lft (oIx x74 x75)) fun x76 => bnd (ret []) fun ds77 => ret (x76 :: ds77)) fun ds78 => m__law_least Hd (ds78 ++ [])) fun x79 => bnd (ret []) fun ds80 => ret (x79 :: ds80)) fun ds82 => ret (x81 :: ds82)) fun ds83 => m__law_near Hd (ds83 ++ [])) fun v_near_here_73 => bnd (bnd (bnd (bnd (bnd (bnd (bnd (ret v_many_64) fun x605 => bnd (ret (.int 12)) fun x606 => lft (oMin2 x605 x606)) fun x607 => lft (rgL x607)) fun ds608 => ret (.lst ds608)) fun x615 => bnd (bnd (bnd (bnd (bnd (ret v_many_64) fun x609 => bnd (ret (.int 1)) fun x610 => lft (oSub x609 x610)) fun x611 => bnd (ret []) fun ds612 => ret (x611 :: ds612)) fun ds613 => lft (mkL ds613)) fun ds614 => ret (.lst ds614)) fun x616 => lft (oAdd x615 x616)) fun x617 => lft (items x617)) fun ds604 => forF un1 (fun (t98 : D) (s97 : Unit) => bnd (bnd (bnd (ret v_told_69) fun x102 => bnd (bnd (ret t98) fun x100 => bnd (ret []) fun ds101 => ret (x100 :: ds101)) fun ds103 => ret (x102 :: ds103)) fun ds104 => m__law_near_of Hd (ds104 ++ [])) fun v_found_99 => bnd (bnd (bnd (bnd (ret v_found_99) fun x124 => bnd (bnd (bnd (bnd (bnd (ret v_near_here_73) fun x119 => bnd (ret t98) fun x120 => lft (oIx x119 x120)) fun x121 => lft (oSorted x121)) fun ds122 => ret (.lst ds122)) fun x123 => lft (oTuple x123)) fun x125 => lft (oNe x124 x125)) fun x126 => lft (asB x126)) fun b127 => if b127 = true then ret true else bnd (bnd (bnd (bnd (bnd (ret v_found_99) fun x113 => bnd (ret []) fun ds114 => ret (x113 :: ds114)) fun ds115 => m__law_tuples 5 Hd (ds115 ++ [])) fun x116 => lft (tru x116)) fun b117 => ret (!b117)) fun b118 => if b118 = true then ret true else bnd (bnd (bnd (bnd (ret v_told_69) fun x107 => bnd (bnd (ret t98) fun x105 => bnd (ret []) fun ds106 => ret (x105 :: ds106)) fun ds108 => ret (x107 :: ds108)) fun ds109 => m__law_cell Hd (ds109 ++ [])) fun x110 => bnd (ret t98) fun x111 => lft (oNe x110 x111)) fun x112 => lft (asB x112)) fun b128 => if b128 = true then bnd (ret (.bl false)) fun a => ret (Fl.rt a) else bnd (ret ()) fun _ => ret (Fl.nx ())) ds604 ()) (frD fun s97 => bnd (bnd (bnd (bnd (bnd (bnd (ret v_many_64) fun x599 => bnd (bnd (bnd (ret (.int 1)) fun x596 => lft (oNeg x596)) fun x597 => bnd (bnd (ret (.bl true)) fun x594 => bnd (bnd (ret .non) fun x592 => bnd (bnd (bnd (bnd (ret v_many_64) fun x587 => bnd (ret []) fun ds588 => ret (x587 :: ds588)) fun ds589 => m__law_odd cells (ds589 ++ [])) fun x590 => bnd (ret []) fun ds591 => ret (x590 :: ds591)) fun ds593 => ret (x592 :: ds593)) fun ds595 => ret (x594 :: ds595)) fun ds598 => ret (x597 :: ds598)) fun ds600 => ret (x599 :: ds600)) fun ds601 => lft (mkL ds601)) fun ds602 => ret (.lst ds602)) fun x603 => lft (items x603)) fun ds586 => forF un1 (fun (t147 : D) (s146 : Unit) => bnd (bnd (bnd (bnd (bnd (bnd (ret v_told_69) fun x164 => bnd (bnd (ret t147) fun x162 => bnd (ret []) fun ds163 => ret (x162 :: ds163)) fun ds165 => ret (x164 :: ds165)) fun ds166 => m__law_cell Hd (ds166 ++ [])) fun x173 => bnd (bnd (bnd (bnd (ret (.str "refused")) fun x169 => bnd (bnd (ret t147) fun x167 => bnd (ret []) fun ds168 => ret (x167 :: ds168)) fun ds170 => ret (x169 :: ds170)) fun ds171 => lft (mkL ds171)) fun ds172 => ret (.lst ds172)) fun x174 => lft (oNe x173 x174)) fun x175 => lft (asB x175)) fun b176 => if b176 = true then ret true else bnd (bnd (bnd (bnd (ret v_told_69) fun x150 => bnd (bnd (ret t147) fun x148 => bnd (ret []) fun ds149 => ret (x148 :: ds149)) fun ds151 => ret (x150 :: ds151)) fun ds152 => m__law_near_of Hd (ds152 ++ [])) fun x159 => bnd (bnd (bnd (bnd (ret (.str "refused")) fun x155 => bnd (bnd (ret t147) fun x153 => bnd (ret []) fun ds154 => ret (x153 :: ds154)) fun ds156 => ret (x155 :: ds156)) fun ds157 => lft (mkL ds157)) fun ds158 => ret (.lst ds158)) fun x160 => lft (oNe x159 x160)) fun x161 => lft (asB x161)) fun b177 => if b177 = true then bnd (ret (.bl false)) fun a => ret (Fl.rt a) else bnd (ret ()) fun _ => ret (Fl.nx ())) ds586 ()) (frD fun s146 => bnd (bnd (bnd (ret (.lst s19)) fun x179 => bnd (ret (.int 2)) fun x180 => lft (oIx x179 x180)) fun x181 => lft (oLen x181)) fun v_marks_here_178 => bnd (bnd (bnd (bnd (bnd (bnd (ret (.int 0)) fun x581 => bnd (bnd (bnd (ret v_marks_here_178) fun x577 => bnd (ret (.int 1)) fun x578 => lft (oSub x577 x578)) fun x579 => bnd (bnd (ret v_marks_here_178) fun x575 => bnd (bnd (bnd (ret (.int 1)) fun x572 => lft (oNeg x572)) fun x573 => bnd (bnd (ret (.bl true)) fun x570 => bnd (bnd (ret .non) fun x568 => bnd (bnd (bnd (bnd (ret v_marks_here_178) fun x563 => bnd (ret []) fun ds564 => ret (x563 :: ds564)) fun ds565 => m__law_odd cells (ds565 ++ [])) fun x566 => bnd (ret []) fun ds567 => ret (x566 :: ds567)) fun ds569 => ret (x568 :: ds569)) fun ds571 => ret (x570 :: ds571)) fun ds574 => ret (x573 :: ds574)) fun ds576 => ret (x575 :: ds576)) fun ds580 => ret (x579 :: ds580)) fun ds582 => ret (x581 :: ds582)) fun ds583 => lft (mkL ds583)) fun ds584 => ret (.lst ds584)) fun x585 => lft (items x585)) fun ds562 => forF un1 (fun (t206 : D) (s205 : Unit) => bnd (bnd (bnd (ret t206) fun x217 => lft (oIsA .int x217)) fun x218 => bnd (lft (asB x218)) fun b219 => if b219 = true then bnd (bnd (bnd (ret t206) fun x212 => lft (oIsA .bool x212)) fun x213 => bnd (lft (asB x213)) fun b214 => ret (.bl (!b214))) fun x215 => bnd (lft (asB x215)) fun b216 => if b216 = true then bnd (ret (.int 0)) fun x208 => bnd (ret t206) fun x209 => bnd (lft ((oLe x208 x209).bind asB)) fun k210 => if k210 = true then bnd (ret v_marks_here_178) fun x211 => lft (oLt x209 x211) else ret (.bl false) else ret (.bl false) else ret (.bl false)) fun v_good_207 => bnd (bnd (bnd (bnd (bnd (ret v_marks_here_178) fun x222 => bnd (bnd (ret t206) fun x220 => bnd (ret []) fun ds221 => ret (x220 :: ds221)) fun ds223 => ret (x222 :: ds223)) fun ds224 => m__law_mark Hd (ds224 ++ [])) fun x233 => bnd (bnd (bnd (ret v_good_207) fun x225 => lft (tru x225)) fun b232 => if b232 = true then ret t206 else bnd (bnd (bnd (ret (.str "refused")) fun x228 => bnd (bnd (ret t206) fun x226 => bnd (ret []) fun ds227 => ret (x226 :: ds227)) fun ds229 => ret (x228 :: ds229)) fun ds230 => lft (mkL ds230)) fun ds231 => ret (.lst ds231)) fun x234 => lft (oNe x233 x234)) fun x235 => lft (asB x235)) fun b236 => if b236 = true then bnd (ret (.bl false)) fun a => ret (Fl.rt a) else bnd (ret ()) fun _ => ret (Fl.nx ())) ds562 ()) (frD fun s205 => bnd (bnd (bnd (bnd (ret v_many_64) fun x238 => bnd (ret (.int 20)) fun x239 => lft (oLt x238 x239)) fun x240 => lft (asB x240)) fun b259 => if b259 = true then bnd (bnd (bnd (bnd (ret v_many_64) fun x241 => bnd (ret []) fun ds242 => ret (x241 :: ds242)) fun ds243 => lft (rg1 ds243)) fun ds246 => bnd (lft (mkL ds246)) fun ds247 => lcM un1 (fun t244 => ret true) (fun t244 => bnd (ret []) fun ds245 => m__law_colour cells (ds245 ++ [])) ds247) fun ds248 => ret (.lst ds248) else bnd (bnd (bnd (bnd (ret v_many_64) fun x249 => bnd (ret []) fun ds250 => ret (x249 :: ds250)) fun ds251 => lft (rg1 ds251)) fun ds256 => bnd (lft (mkL ds256)) fun ds257 => lcM un1 (fun t252 => ret true) (fun t252 => bnd (bnd (ret t252) fun x253 => lft (oIntOf x253)) fun x254 => bnd (ret (.int 100)) fun x255 => lft (oMod x254 x255)) ds257) fun ds258 => ret (.lst ds258)) fun v_colours_237 => bnd (bnd (ret v_colours_237) fun x261 => lft (items x261)) fun v_given_260 => bnd (lendM (bnd (bnd (ret v_told_69) fun x265 => bnd (bnd (ret (.lnt v_given_260)) fun x263 => bnd (ret []) fun ds264 => ret (x263 :: ds264)) fun ds266 => ret (x265 :: ds266)) fun ds267 => m__law_new Hd (ds267 ++ []))) fun v_found_262 => bnd (bnd (bnd (bnd (bnd (bnd (ret v_found_262) fun x285 => bnd (bnd (bnd (bnd (bnd (ret v_colours_237) fun x279 => bnd (bnd (bnd (ret (.lst s19)) fun x275 => bnd (ret (.int 1)) fun x276 => lft (oIx x275 x276)) fun x277 => bnd (bnd (bnd (ret (.lst s19)) fun x271 => bnd (ret (.int 2)) fun x272 => lft (oIx x271 x272)) fun x273 => bnd (ret []) fun ds274 => ret (x273 :: ds274)) fun ds278 => ret (x277 :: ds278)) fun ds280 => ret (x279 :: ds280)) fun ds281 => lft (mkL ds281)) fun ds282 => ret (.lst ds282)) fun x283 => bnd (ret []) fun ds284 => ret (x283 :: ds284)) fun ds286 => ret (x285 :: ds286)) fun ds287 => m__law_same Hd (ds287 ++ [])) fun x288 => lft (tru x288)) fun b289 => ret (!b289)) fun b290 => if b290 = true then ret true else bnd (bnd (ret (.lst v_given_260)) fun x268 => bnd (ret v_colours_237) fun x269 => lft (oNe x268 x269)) fun x270 => lft (asB x270)) fun b291 => if b291 = true then ret (.bl false) else bnd (bnd (bnd (ret v_many_64) fun x293 => bnd (ret []) fun ds294 => ret (x293 :: ds294)) fun ds295 => m__law_take cells (ds295 ++ [])) fun v_at_292 => bnd (bnd (bnd (bnd (ret (.int 100)) fun x296 => bnd (ret []) fun ds297 => ret (x296 :: ds297)) fun ds298 => m__law_odd cells (ds298 ++ [])) fun x299 => bnd (ret v_at_292) fun x300 => lft (set1 v_given_260 x300 x299)) fun es301 => bnd (bnd (bnd (bnd (lendM (bnd (bnd (ret v_told_69) fun x323 => bnd (bnd (ret (.lnt es301)) fun x321 => bnd (ret []) fun ds322 => ret (x321 :: ds322)) fun ds324 => ret (x323 :: ds324)) fun ds325 => m__law_new Hd (ds325 ++ []))) fun x332 => bnd (bnd (bnd (bnd (ret v_at_292) fun x328 => bnd (bnd (ret (.str "colour")) fun x326 => bnd (ret []) fun ds327 => ret (x326 :: ds327)) fun ds329 => ret (x328 :: ds329)) fun ds330 => lft (mkL ds330)) fun ds331 => ret (.lst ds331)) fun x333 => lft (oNe x332 x333)) fun x334 => lft (asB x334)) fun b335 => if b335 = true then ret true else bnd (bnd (bnd (bnd (ret v_found_262) fun x316 => bnd (bnd (bnd (bnd (bnd (ret v_colours_237) fun x310 => bnd (bnd (bnd (ret (.lst s19)) fun x306 => bnd (ret (.int 1)) fun x307 => lft (oIx x306 x307)) fun x308 => bnd (bnd (bnd (ret (.lst s19)) fun x302 => bnd (ret (.int 2)) fun x303 => lft (oIx x302 x303)) fun x304 => bnd (ret []) fun ds305 => ret (x304 :: ds305)) fun ds309 => ret (x308 :: ds309)) fun ds311 => ret (x310 :: ds311)) fun ds312 => lft (mkL ds312)) fun ds313 => ret (.lst ds313)) fun x314 => bnd (ret []) fun ds315 => ret (x314 :: ds315)) fun ds317 => ret (x316 :: ds317)) fun ds318 => m__law_same Hd (ds318 ++ [])) fun x319 => lft (tru x319)) fun b320 => ret (!b320)) fun b336 => if b336 = true then ret (.bl false) else bnd (bnd (bnd (bnd (bnd (bnd (ret v_told_69) fun x379 => bnd (bnd (bnd (ret v_colours_237) fun x374 => bnd (bnd (ret (.int 1)) fun x373 => lft (oInt? x373)) fun lo375 => bnd (ret none) fun hi376 => lft (oSl x374 lo375 hi376)) fun x377 => bnd (ret []) fun ds378 => ret (x377 :: ds378)) fun ds380 => ret (x379 :: ds380)) fun ds381 => m__law_new Hd (ds381 ++ [])) fun x388 => bnd (bnd (bnd (bnd (ret (.int 0)) fun x384 => bnd (bnd (ret (.str "cells")) fun x382 => bnd (ret []) fun ds383 => ret (x382 :: ds383)) fun ds385 => ret (x384 :: ds385)) fun ds386 => lft (mkL ds386)) fun ds387 => ret (.lst ds387)) fun x389 => lft (oNe x388 x389)) fun x390 => lft (asB x390)) fun b391 => if b391 = true then ret true else bnd (bnd (bnd (bnd (bnd (ret v_told_69) fun x360 => bnd (bnd (bnd (ret v_colours_237) fun x356 => bnd (bnd (bnd (bnd (ret (.int 0)) fun x352 => bnd (ret []) fun ds353 => ret (x352 :: ds353)) fun ds354 => lft (mkL ds354)) fun ds355 => ret (.lst ds355)) fun x357 => lft (oAdd x356 x357)) fun x358 => bnd (ret []) fun ds359 => ret (x358 :: ds359)) fun ds361 => ret (x360 :: ds361)) fun ds362 => m__law_new Hd (ds362 ++ [])) fun x369 => bnd (bnd (bnd (bnd (ret (.int 0)) fun x365 => bnd (bnd (ret (.str "cells")) fun x363 => bnd (ret []) fun ds364 => ret (x363 :: ds364)) fun ds366 => ret (x365 :: ds366)) fun ds367 => lft (mkL ds367)) fun ds368 => ret (.lst ds368)) fun x370 => lft (oNe x369 x370)) fun x371 => lft (asB x371)) fun b372 => if b372 = true then ret true else bnd (bnd (bnd (bnd (ret v_told_69) fun x340 => bnd (bnd (bnd (ret []) fun ds337 => m__law_rid cells (ds337 ++ [])) fun x338 => bnd (ret []) fun ds339 => ret (x338 :: ds339)) fun ds341 => ret (x340 :: ds341)) fun ds342 => m__law_new Hd (ds342 ++ [])) fun x349 => bnd (bnd (bnd (bnd (ret (.int 0)) fun x345 => bnd (bnd (ret (.str "cells")) fun x343 => bnd (ret []) fun ds344 => ret (x343 :: ds344)) fun ds346 => ret (x345 :: ds346)) fun ds347 => lft (mkL ds347)) fun ds348 => ret (.lst ds348)) fun x350 => lft (oNe x349 x350)) fun x351 => lft (asB x351)) fun b392 => if b392 = true then ret (.bl false) else bnd (bnd (bnd (ret v_many_64) fun x401 => bnd (bnd (bnd (ret (.int 1)) fun x397 => bnd (bnd (bnd (ret (.int 4)) fun x394 => bnd (ret []) fun ds395 => ret (x394 :: ds395)) fun ds396 => m__law_take cells (ds396 ++ [])) fun x398 => lft (oAdd x397 x398)) fun x399 => bnd (ret []) fun ds400 => ret (x399 :: ds400)) fun ds402 => ret (x401 :: ds402)) fun ds403 => m__law_marks cells (ds403 ++ [])) fun v_others_393 => bnd (bnd (bnd (bnd (bnd (bnd (bnd (ret v_told_69) fun x421 => bnd (bnd (bnd (ret v_others_393) fun x418 => lft (oTuple x418)) fun x419 => bnd (ret []) fun ds420 => ret (x419 :: ds420)) fun ds422 => ret (x421 :: ds422)) fun ds423 => m__law_moved Hd (ds423 ++ [])) fun x424 => bnd (bnd (bnd (bnd (bnd (bnd (ret (.lst s19)) fun x410 => bnd (ret (.int 0)) fun x411 => lft (oIx x410 x411)) fun x412 => bnd (bnd (bnd (ret (.lst s19)) fun x406 => bnd (ret (.int 1)) fun x407 => lft (oIx x406 x407)) fun x408 => bnd (bnd (ret v_others_393) fun x404 => bnd (ret []) fun ds405 => ret (x404 :: ds405)) fun ds409 => ret (x408 :: ds409)) fun ds413 => ret (x412 :: ds413)) fun ds414 => lft (mkL ds414)) fun ds415 => ret (.lst ds415)) fun x416 => bnd (ret []) fun ds417 => ret (x416 :: ds417)) fun ds425 => ret (x424 :: ds425)) fun ds426 => m__law_same Hd (ds426 ++ [])) fun x427 => lft (tru x427)) fun b428 => ret (!b428)) fun b429 => if b429 = true then ret (.bl false) else bnd (bnd (bnd (bnd (ret v_others_393) fun x431 => lft (oLen x431)) fun x432 => bnd (ret []) fun ds433 => ret (x432 :: ds433)) fun ds434 => m__law_take cells (ds434 ++ [])) fun v_at_430 => bnd (bnd (bnd (bnd (ret v_others_393) fun x437 => bnd (ret none) fun lo438 => bnd (bnd (ret v_at_430) fun x436 => lft (oInt? x436)) fun hi439 => lft (oSl x437 lo438 hi439)) fun x447 => bnd (bnd (bnd (bnd (bnd (bnd (ret v_many_64) fun x440 => bnd (ret []) fun ds441 => ret (x440 :: ds441)) fun ds442 => m__law_odd cells (ds442 ++ [])) fun x443 => bnd (ret []) fun ds444 => ret (x443 :: ds444)) fun ds445 => lft (mkL ds445)) fun ds446 => ret (.lst ds446)) fun x448 => lft (oAdd x447 x448)) fun x455 => bnd (bnd (ret v_others_393) fun x452 => bnd (bnd (bnd (ret v_at_430) fun x449 => bnd (ret (.int 1)) fun x450 => lft (oAdd x449 x450)) fun x451 => lft (oInt? x451)) fun lo453 => bnd (ret none) fun hi454 => lft (oSl x452 lo453 hi454)) fun x456 => lft (oAdd x455 x456)) fun v_spoilt_435 => bnd (bnd (bnd (bnd (bnd (bnd (ret v_told_69) fun x479 => bnd (bnd (ret v_spoilt_435) fun x477 => bnd (ret []) fun ds478 => ret (x477 :: ds478)) fun ds480 => ret (x479 :: ds480)) fun ds481 => m__law_moved Hd (ds481 ++ [])) fun x488 => bnd (bnd (bnd (bnd (ret v_at_430) fun x484 => bnd (bnd (ret (.str "mark")) fun x482 => bnd (ret []) fun ds483 => ret (x482 :: ds483)) fun ds485 => ret (x484 :: ds485)) fun ds486 => lft (mkL ds486)) fun ds487 => ret (.lst ds487)) fun x489 => lft (oNe x488 x489)) fun x490 => lft (asB x490)) fun b491 => if b491 = true then ret true else bnd (bnd (bnd (bnd (ret v_told_69) fun x465 => bnd (bnd (bnd (bnd (ret v_others_393) fun x458 => bnd (ret none) fun lo459 => bnd (bnd (ret (.int 1)) fun x457 => lft (oInt? x457)) fun hi460 => lft (oSl x458 lo459 hi460)) fun x461 => bnd (ret (.int 2)) fun x462 => lft (oMul x461 x462)) fun x463 => bnd (ret []) fun ds464 => ret (x463 :: ds464)) fun ds466 => ret (x465 :: ds466)) fun ds467 => m__law_moved Hd (ds467 ++ [])) fun x474 => bnd (bnd (bnd (bnd (ret (.int 1)) fun x470 => bnd (bnd (ret (.str "mark")) fun x468 => bnd (ret []) fun ds469 => ret (x468 :: ds469)) fun ds471 => ret (x470 :: ds471)) fun ds472 => lft (mkL ds472)) fun ds473 => ret (.lst ds473)) fun x475 => lft (oNe x474 x475)) fun x476 => lft (asB x476)) fun b492 => if b492 = true then ret (.bl false) else bnd (bnd (bnd (bnd (bnd (bnd (ret v_told_69) fun x512 => bnd (bnd (bnd (bnd (ret []) fun ds508 => lft (mkL ds508)) fun ds509 => ret (.lst ds509)) fun x510 => bnd (ret []) fun ds511 => ret (x510 :: ds511)) fun ds513 => ret (x512 :: ds513)) fun ds514 => m__law_moved Hd (ds514 ++ [])) fun x521 => bnd (bnd (bnd (bnd (ret (.int 0)) fun x517 => bnd (bnd (ret (.str "marks")) fun x515 => bnd (ret []) fun ds516 => ret (x515 :: ds516)) fun ds518 => ret (x517 :: ds518)) fun ds519 => lft (mkL ds519)) fun ds520 => ret (.lst ds520)) fun x522 => lft (oNe x521 x522)) fun x523 => lft (asB x523)) fun b524 => if b524 = true then ret true else bnd (bnd (bnd (bnd (ret v_told_69) fun x496 => bnd (bnd (bnd (ret []) fun ds493 => m__law_rid cells (ds493 ++ [])) fun x494 => bnd (ret []) fun ds495 => ret (x494 :: ds495)) fun ds497 => ret (x496 :: ds497)) fun ds498 => m__law_moved Hd (ds498 ++ [])) fun x505 => bnd (bnd (bnd (bnd (ret (.int 0)) fun x501 => bnd (bnd (ret (.str "marks")) fun x499 => bnd (ret []) fun ds500 => ret (x499 :: ds500)) fun ds502 => ret (x501 :: ds502)) fun ds503 => lft (mkL ds503)) fun ds504 => ret (.lst ds504)) fun x506 => lft (oNe x505 x506)) fun x507 => lft (asB x507)) fun b525 => if b525 = true then ret (.bl false) else bnd (bnd (bnd (bnd (ret v_many_64) fun x552 => bnd (ret (.int 4)) fun x553 => lft (oGt x552 x553)) fun x554 => lft (asB x554)) fun b555 => if b555 = true then bnd (bnd (bnd (bnd (ret v_told_69) fun x540 => bnd (bnd (bnd (bnd (bnd (ret (.int 0)) fun x534 => bnd (bnd (ret (.int 1)) fun x532 => bnd (bnd (ret (.int 2)) fun x530 => bnd (bnd (ret (.int 3)) fun x528 => bnd (bnd (ret (.int 4)) fun x526 => bnd (ret []) fun ds527 => ret (x526 :: ds527)) fun ds529 => ret (x528 :: ds529)) fun ds531 => ret (x530 :: ds531)) fun ds533 => ret (x532 :: ds533)) fun ds535 => ret (x534 :: ds535)) fun ds536 => lft (mkL ds536)) fun ds537 => ret (.lst ds537)) fun x538 => bnd (ret []) fun ds539 => ret (x538 :: ds539)) fun ds541 => ret (x540 :: ds541)) fun ds542 => m__law_moved Hd (ds542 ++ [])) fun x549 => bnd (bnd (bnd (bnd (ret (.int 0)) fun x545 => bnd (bnd (ret (.str "marks")) fun x543 => bnd (ret []) fun ds544 => ret (x543 :: ds544)) fun ds546 => ret (x545 :: ds546)) fun ds547 => lft (mkL ds547)) fun ds548 => ret (.lst ds548)) fun x550 => lft (oNe x549 x550)) fun x551 => lft (asB x551) else ret false) fun b556 => if b556 = true then ret (.bl false) else bnd (bnd (ret v_told_69) fun x559 => bnd (bnd (ret (.lst s19)) fun x557 => bnd (ret []) fun ds558 => ret (x557 :: ds558)) fun ds560 => ret (x559 :: ds560)) fun ds561 => m__law_same Hd (ds561 ++ []))))
section
variable {P : Program} {w : World} {K : PySem.W.Frag} {mg : Str → Option Value} {base : Heap} {A : Ad}
theorem exZ (T : Tx K mg A) : ∀ c c', c < 3 → c' < 3 → PySem.W.exmOne K (.ref ((Zo K A).cl c)) (.ref ((Zo K A).cl c')) = some (decide (c = c')) := T.ex
theorem okD_BadPicture_ok (K : PySem.W.Frag) (A : Ad) : ∀ (G : Hp) (ys : List V) (ds : List D), RpAll (Zo K A) G ys ds → okD_BadPicture ds = true → ds.length = ((Zo K A).fn 0).length ∧ ((Zo K A).fn 0).length ≤ 1000 ∧ ok_i_BadPicture ys := fun G ys ds r h => by
  match ds, r, h with
    | [], _, h => exact Bool.noConfusion (show false = true from h)
    | [_], _, h => exact Bool.noConfusion (show false = true from h)
    | _ :: _ :: _ :: _, _, h => exact Bool.noConfusion (show false = true from h)
    | [v0, v1], r, h =>
    cases r with | cons r0 r =>  cases r with | cons r1 r =>  cases r; simp only [okD_BadPicture, Bool.and_eq_true] at h; obtain ⟨h0, h1⟩ := h; exact ⟨rfl, (show 2 ≤ 1000 by decide), ⟨fmt_of r1 h0, fmt_of r0 h1⟩⟩
theorem sc_BadPicture : FnScope ["self", "index", "what"] ["self", "index", "what"] (defScope s_BadPicture) := ⟨rfl, rfl, rfl, by decide +kernel, rfl, by decide +kernel, by decide +kernel⟩
theorem oki_BadPicture (T : Tx K mg A) : FnOk P w K mg base (L2.CX P w) 1 A.i_BadPicture A.di_BadPicture ["self", "index", "what"] (spIni ((Zo K A).cl 0) ((Zo K A).fn 0) ok_i_BadPicture) :=
  T.FI_BadPicture.ok sc_BadPicture (fun vs H Q E h => by obtain ⟨a, ys, rfl, hl, _⟩ := h; rw [List.length_cons, hl]; rfl) fun cdv A' outer s H vs Q E hr h => by
    obtain ⟨a, ys, rfl, hl, ho, ha, kk⟩ := h
    match ys, hl, ho, kk with
    | [], _, ho, _ => exact ho.elim
    | [_], _, ho, _ => exact ho.elim
    | _ :: _ :: _ :: _, _, ho, _ => exact ho.elim
    | [v0, v1], hl, ho, kk =>
    refine ⟨_, pss_cons (ps_expr (pe_base T.base rfl (by exact (pa_cons (pv 0) (pa_cons (pe_joined (PJ.cons pe_str (PJ.cons (pe_fmt (pv 2)) (PJ.cons pe_str (PJ.cons (pe_fmt (pv 1)) PJ.nil))))) pa_nil))))) (pss_cons (ps_ost (pv 0) (pv 1)) (pss_one (ps_ost (pv 0) (pv 2)))), ?_⟩
    exact ini2 T.o_BadPicture T.h_BadPicture_index T.h_BadPicture_what ⟨a, [v0, v1], rfl, hl, ho, ha, kk⟩ fun ho σ hs H' R z => by subst hs; exact js_ok (JsOk.cons (tx_str (by decide +kernel)) (JsOk.cons (tx_fmt (n := 2) rfl ho.1) (JsOk.cons (tx_str (by decide +kernel)) (JsOk.cons (tx_fmt (n := 1) rfl ho.2) JsOk.nil)))) (by decide) fun out => z out
theorem okD_NoCell_ok (K : PySem.W.Frag) (A : Ad) : ∀ (G : Hp) (ys : List V) (ds : List D), RpAll (Zo K A) G ys ds → okD_NoCell ds = true → ds.length = ((Zo K A).fn 1).length ∧ ((Zo K A).fn 1).length ≤ 1000 ∧ ok_i_NoCell ys := fun G ys ds r h => by
  match ds, r, h with
    | [], _, h => exact Bool.noConfusion (show false = true from h)
    | _ :: _ :: _, _, h => exact Bool.noConfusion (show false = true from h)
    | [v0], r, h =>
    cases r with | cons r0 r =>  cases r; exact ⟨rfl, (show 1 ≤ 1000 by decide), trivial⟩
theorem sc_NoCell : FnScope ["self", "cell"] ["self", "cell"] (defScope s_NoCell) := ⟨rfl, rfl, rfl, by decide +kernel, rfl, by decide +kernel, by decide +kernel⟩
theorem oki_NoCell (T : Tx K mg A) : FnOk P w K mg base (L2.CX P w) 1 A.i_NoCell A.di_NoCell ["self", "cell"] (spIni ((Zo K A).cl 1) ((Zo K A).fn 1) ok_i_NoCell) :=
  T.FI_NoCell.ok sc_NoCell (fun vs H Q E h => by obtain ⟨a, ys, rfl, hl, _⟩ := h; rw [List.length_cons, hl]; rfl) fun cdv A' outer s H vs Q E hr h => by
    obtain ⟨a, ys, rfl, hl, ho, ha, kk⟩ := h
    match ys, hl, ho, kk with
    | [], _, ho, _ => exact ho.elim
    | _ :: _ :: _, _, ho, _ => exact ho.elim
    | [v0], hl, ho, kk =>
    refine ⟨_, pss_cons (ps_expr (pe_base T.base rfl (by exact (pa_cons (pv 0) (pa_cons pe_str pa_nil))))) (pss_one (ps_ost (pv 0) (pv 1))), ?_⟩
    exact ini1 T.o_NoCell T.h_NoCell_cell ⟨a, [v0], rfl, hl, ho, ha, kk⟩ fun ho σ hs H' R z => by subst hs; exact z _
theorem okD_NoMark_ok (K : PySem.W.Frag) (A : Ad) : ∀ (G : Hp) (ys : List V) (ds : List D), RpAll (Zo K A) G ys ds → okD_NoMark ds = true → ds.length = ((Zo K A).fn 2).length ∧ ((Zo K A).fn 2).length ≤ 1000 ∧ ok_i_NoMark ys := fun G ys ds r h => by
  match ds, r, h with
    | [], _, h => exact Bool.noConfusion (show false = true from h)
    | _ :: _ :: _, _, h => exact Bool.noConfusion (show false = true from h)
    | [v0], r, h =>
    cases r with | cons r0 r =>  cases r; exact ⟨rfl, (show 1 ≤ 1000 by decide), trivial⟩
theorem sc_NoMark : FnScope ["self", "mark"] ["self", "mark"] (defScope s_NoMark) := ⟨rfl, rfl, rfl, by decide +kernel, rfl, by decide +kernel, by decide +kernel⟩
theorem oki_NoMark (T : Tx K mg A) : FnOk P w K mg base (L2.CX P w) 1 A.i_NoMark A.di_NoMark ["self", "mark"] (spIni ((Zo K A).cl 2) ((Zo K A).fn 2) ok_i_NoMark) :=
  T.FI_NoMark.ok sc_NoMark (fun vs H Q E h => by obtain ⟨a, ys, rfl, hl, _⟩ := h; rw [List.length_cons, hl]; rfl) fun cdv A' outer s H vs Q E hr h => by
    obtain ⟨a, ys, rfl, hl, ho, ha, kk⟩ := h
    match ys, hl, ho, kk with
    | [], _, ho, _ => exact ho.elim
    | _ :: _ :: _, _, ho, _ => exact ho.elim
    | [v0], hl, ho, kk =>
    refine ⟨_, pss_cons (ps_expr (pe_base T.base rfl (by exact (pa_cons (pv 0) (pa_cons pe_str pa_nil))))) (pss_one (ps_ost (pv 0) (pv 1))), ?_⟩
    exact ini1 T.o_NoMark T.h_NoMark_mark ⟨a, [v0], rfl, hl, ho, ha, kk⟩ fun ho σ hs H' R z => by subst hs; exact z _
theorem sc__law_hand : FnScope ["_law_script", "_law_total", "_law_cells", "_law_cell_here"] ["_law_script"] (defScope s__law_hand) := ⟨rfl, rfl, rfl, by decide +kernel, rfl, by decide +kernel, by decide +kernel⟩
theorem ok__law_hand (T : Tx K mg A) : FnOk P w K mg base (L2.CX P w) 1 A.a__law_hand A.d__law_hand ["_law_script"] (spHand K) :=
  T.F__law_hand.ok sc__law_hand (fun vs H Q E h => by obtain ⟨a, ns, rfl, _⟩ := h; rfl) fun cdv A' outer s H vs Q E hr h => by
    refine ⟨_, pss_cons (ps_set (i := 1) sc__law_hand.nd rfl (by first | exact Or.inl rfl | exact Or.inr rfl) (by exact (pe_op (op_addK (K := K) rfl) (pe_callB (call_lnK (K := K) rfl) rfl T.n_len rfl (pa_cons (pv 0) pa_nil)) pe_int)))
      (pss_cons (ps_set (i := 2) sc__law_hand.nd rfl (by first | exact Or.inl rfl | exact Or.inr rfl) (by exact (pe_lst pa_nil)))
      (pss_cons (ps_for PassesOwn.leaving rfl (pi_sqK (K := K) rfl (pv 0)) (pg_name (i := 3) sc__law_hand.nd rfl (by first | exact Or.inl rfl | exact Or.inr rfl))
        (pss_cons (ps_set (i := 1) sc__law_hand.nd rfl (by first | exact Or.inl rfl | exact Or.inr rfl) (by exact (pe_op op_modN (pe_callTy call_int1 rfl T.n_int rfl (pa_cons (pe_op (op_addK (K := K) rfl) (pe_op op_mulG (pv 1) pe_int) (pe_callTy call_int1 rfl T.n_int rfl (pa_cons (pv 3) pa_nil))) pa_nil)) pe_int)))
        (pss_cons (ps_expr (pe_bm PySem.F.plainAttrs_list PySem.F.slot_list_append PySem.F.type_list_append mt_append (pv 2) (pa_cons (pe_callB call_abs rfl T.n_abs rfl (pa_cons (pe_callTy call_int1 rfl T.n_int rfl (pa_cons (pv 3) pa_nil)) pa_nil)) pa_nil))) pss_nil)))
      (pss_one (ps_ret (by exact (pe_lst (pa_cons (pv 2) (pa_cons pe_int (pa_cons pe_int (pa_cons (pv 1) pa_nil)))))))))), ?_⟩
    exact hand_ok (n := 53) h (by decide) rfl
theorem sc_is_whole : FnScope ["thing", "low", "high"] ["thing", "low", "high"] (defScope s_is_whole) := ⟨rfl, rfl, rfl, by decide +kernel, rfl, by decide +kernel, by decide +kernel⟩
theorem ok_is_whole (T : Tx K mg A) : FnG P w K mg base (L2.CX P w) 1 A.a_is_whole A.d_is_whole ["thing", "low", "high"] (spM (Zo K A) m_is_whole) :=
  fnD_okG T.F_is_whole sc_is_whole (fun vs H Q E h => spM_len (fun S ds h => match ds, h with | [], _ => rfl | [_], _ => rfl | [_, _], _ => rfl | [_, _, _], h => absurd rfl h | _ :: _ :: _ :: _ :: _, _ => rfl) h) fun cdv A' outer s H vs Q E hg hr h => by
    obtain ⟨S, lay, G, s0, ds, wd, r, e⟩ := h
    match ds, r, e with
    | [], _, e => exact e.elim
    | [_], _, e => exact e.elim
    | [_, _], _, e => exact e.elim
    | _ :: _ :: _ :: _ :: _, _, e => exact e.elim
    | [a_thing, a_low, a_high], r, e =>
    refine ⟨_, (pss_cons (ps_if (PW.pt (pw_or (pt_not (pt_truK (K := K) rfl (pe_callB (call_isiK (K := K) rfl) rfl T.n_isinstance rfl (pa_cons (pv 0) (pa_cons (pe_bltn (v := .ty "int") rfl T.n_int rfl rfl) pa_nil))) (fun _ => rfl))) (pw_or1 (pt_truK (K := K) rfl (pe_callB (call_isiK (K := K) rfl) rfl T.n_isinstance rfl (pa_cons (pv 0) (pa_cons (pe_bltn (v := .ty "bool") rfl T.n_bool rfl rfl) pa_nil))) (fun _ => rfl))))) (pss_one (ps_ret (by exact pe_bl))) pss_nil) (pss_cons (ps_if (PW.pt (pw_and (pt_cmpR op_notN (pv 1) pe_non (nomark _)) (pw_and1 (pt_cmpR op_lt (pv 0) (pv 1) (nomark _))))) (pss_one (ps_ret (by exact pe_bl))) pss_nil) (pss_one (ps_ret (by exact (pe_or (pe_cmpR op_isN (pv 2) pe_non (nomark _)) (pe_one (pe_cmpR op_le (pv 0) (pv 2) (nomark _))))))))), ?_⟩
    exact body_ok (ρ := [.P a_thing, .P a_low, .P a_high]) (J := ⟨Zo K A, lay, fun cls d _ H => E cls d H⟩) (esc := List.replicate 3 .U) (sv_ifR (et_or (et_not (et_tru (Ev.x (ev_isa .int (Ev.x (ev_var (i := 0) (d := a_thing) rfl)))))) (et_tru (Ev.x (ev_isa .bool (Ev.x (ev_var (i := 0) (d := a_thing) rfl)))))) wkU (sv_ret ev_bl wkU) (sv_skip (sv_ifR (et_and (et_test (ev_op o2_nis (Ev.x (ev_var (i := 1) (d := a_low) rfl)) (Ev.x ev_non))) (et_test (ev_op o2_lt (Ev.x (ev_var (i := 0) (d := a_thing) rfl)) (Ev.x (ev_var (i := 1) (d := a_low) rfl))))) wkU (sv_ret ev_bl wkU) (sv_skip (sv_ret (ev_orV (ev_op o2_is (Ev.x (ev_var (i := 2) (d := a_high) rfl)) (Ev.x ev_non)) (ev_op o2_le (Ev.x (ev_var (i := 0) (d := a_thing) rfl)) (Ev.x (ev_var (i := 2) (d := a_high) rfl)))) wkU))))) ⟨cells_start (n := 0) r rfl, by simpa using wd⟩ (fun _ _ _ _ h => h) e
theorem sc_is_sequence : FnScope ["thing"] ["thing"] (defScope s_is_sequence) := ⟨rfl, rfl, rfl, by decide +kernel, rfl, by decide +kernel, by decide +kernel⟩
theorem ok_is_sequence (T : Tx K mg A) : FnG P w K mg base (L2.CX P w) 1 A.a_is_sequence A.d_is_sequence ["thing"] (spM (Zo K A) m_is_sequence) :=
  fnD_okG T.F_is_sequence sc_is_sequence (fun vs H Q E h => spM_len (fun S ds h => match ds, h with | [], _ => rfl | [_], h => absurd rfl h | _ :: _ :: _, _ => rfl) h) fun cdv A' outer s H vs Q E hg hr h => by
    obtain ⟨S, lay, G, s0, ds, wd, r, e⟩ := h
    match ds, r, e with
    | [], _, e => exact e.elim
    | _ :: _ :: _, _, e => exact e.elim
    | [a_thing], r, e =>
    refine ⟨_, (pss_one (ps_ret (by exact (pe_callB (call_isiTK (K := K) rfl) rfl T.n_isinstance rfl (pa_cons (pv 0) (pa_cons (pe_tup (pa_cons (pe_bltn (v := .ty "list") rfl T.n_list rfl rfl) (pa_cons (pe_bltn (v := .ty "tuple") rfl T.n_tuple rfl rfl) pa_nil))) pa_nil)))))), ?_⟩
    exact body_ok (ρ := [.P a_thing]) (J := ⟨Zo K A, lay, fun cls d _ H => E cls d H⟩) (esc := List.replicate 1 .U) (sv_ret (ev_isas [.list, .tuple] (Ev.x (ev_var (i := 0) (d := a_thing) rfl))) wkU) ⟨cells_start (n := 0) r rfl, by simpa using wd⟩ (fun _ _ _ _ h => h) e
theorem sc_is_couple : FnScope ["thing"] ["thing"] (defScope s_is_couple) := ⟨rfl, rfl, rfl, by decide +kernel, rfl, by decide +kernel, by decide +kernel⟩
theorem ok_is_couple (T : Tx K mg A) : FnG P w K mg base (L2.CX P w) 2 A.a_is_couple A.d_is_couple ["thing"] (spM (Zo K A) m_is_couple) :=
  fnD_okG T.F_is_couple sc_is_couple (fun vs H Q E h => spM_len (fun S ds h => match ds, h with | [], _ => rfl | [_], h => absurd rfl h | _ :: _ :: _, _ => rfl) h) fun cdv A' outer s H vs Q E hg hr h => by
    obtain ⟨S, lay, G, s0, ds, wd, r, e⟩ := h
    match ds, r, e with
    | [], _, e => exact e.elim
    | _ :: _ :: _, _, e => exact e.elim
    | [a_thing], r, e =>
    refine ⟨_, (pss_one (ps_ret (by exact (pe_and (pe_callG (by exact hg) (ok_is_sequence T) (hr.mono (by first | decide | exact Nat.le_refl _ | omega | (simp only [Nat.add_eq]; omega))) rfl T.g_is_sequence T.F_is_sequence.kp T.b_is_sequence .nil (fun σ => passAt (takes_of rfl rfl rfl rfl) σ) (by exact (pa_cons (pv 0) pa_nil))) (pe_one (pe_cmpR (op_eqK (K := K) rfl hr.units) (pe_callB (call_lnK (K := K) rfl) rfl T.n_len rfl (pa_cons (pv 0) pa_nil)) pe_int (nomark _))))))), ?_⟩
    exact body_ok (ρ := [.P a_thing]) (J := ⟨Zo K A, lay, fun cls d _ H => E cls d H⟩) (esc := List.replicate 1 .U) (sv_ret (ev_andV (ev_call (dds := []) (ea_cons (ev_var (i := 0) (d := a_thing) rfl) ea_nil)) (ev_op o2_eq (Ev.x (ev_b1 o1_len (Ev.x (ev_var (i := 0) (d := a_thing) rfl)))) (Ev.x ev_int))) wkU) ⟨cells_start (n := 0) r rfl, by simpa using wd⟩ (fun _ _ _ _ h => h) e
theorem sc_is_colour : FnScope ["thing"] ["thing"] (defScope s_is_colour) := ⟨rfl, rfl, rfl, by decide +kernel, rfl, by decide +kernel, by decide +kernel⟩
theorem ok_is_colour (T : Tx K mg A) : FnG P w K mg base (L2.CX P w) 2 A.a_is_colour A.d_is_colour ["thing"] (spM (Zo K A) m_is_colour) :=
  fnD_okG T.F_is_colour sc_is_colour (fun vs H Q E h => spM_len (fun S ds h => match ds, h with | [], _ => rfl | [_], h => absurd rfl h | _ :: _ :: _, _ => rfl) h) fun cdv A' outer s H vs Q E hg hr h => by
    obtain ⟨S, lay, G, s0, ds, wd, r, e⟩ := h
    match ds, r, e with
    | [], _, e => exact e.elim
    | _ :: _ :: _, _, e => exact e.elim
    | [a_thing], r, e =>
    refine ⟨_, (pss_one (ps_ret (by exact (pe_callG (by exact hg) (ok_is_whole T) (hr.mono (by first | decide | exact Nat.le_refl _ | omega | (simp only [Nat.add_eq]; omega))) rfl T.g_is_whole T.F_is_whole.kp T.b_is_whole .nil (fun σ => passAt (takes_of rfl rfl rfl rfl) σ) (by exact (pa_cons (pv 0) (pa_cons pe_int (pa_cons (pe_glob (v := .int 99) rfl T.k_MOST_COLOUR.choose_spec ⟨_, rfl⟩) pa_nil)))))))), ?_⟩
    exact body_ok (ρ := [.P a_thing]) (J := ⟨Zo K A, lay, fun cls d _ H => E cls d H⟩) (esc := List.replicate 1 .U) (sv_ret (ev_call (dds := []) (ea_cons (ev_var (i := 0) (d := a_thing) rfl) (ea_cons ev_int (ea_cons ev_int ea_nil)))) wkU) ⟨cells_start (n := 0) r rfl, by simpa using wd⟩ (fun _ _ _ _ h => h) e
theorem sc_wrong_colour : FnScope ["row", "index", "colour"] ["row"] (defScope s_wrong_colour) := ⟨rfl, rfl, rfl, by decide +kernel, rfl, by decide +kernel, by decide +kernel⟩
theorem ok_wrong_colour (T : Tx K mg A) : FnG P w K mg base (L2.CX P w) 3 A.a_wrong_colour A.d_wrong_colour ["row"] (spM (Zo K A) m_wrong_colour) :=
  fnD_okG T.F_wrong_colour sc_wrong_colour (fun vs H Q E h => spM_len (fun S ds h => match ds, h with | [], _ => rfl | [_], h => absurd rfl h | _ :: _ :: _, _ => rfl) h) fun cdv A' outer s H vs Q E hg hr h => by
    obtain ⟨S, lay, G, s0, ds, wd, r, e⟩ := h
    match ds, r, e with
    | [], _, e => exact e.elim
    | _ :: _ :: _, _, e => exact e.elim
    | [a_row], r, e =>
    refine ⟨_, (pss_cons (ps_for PassesOwn.leaving rfl (pi_enK (K := K) rfl rfl T.n_enumerate (pa_cons (pv 0) pa_nil)) (pg_tupK (K := K) (n := 2) rfl rfl (pgs_cons (pg_name (i := 1) sc_wrong_colour.nd rfl (by first | exact Or.inl rfl | exact Or.inr rfl)) (pgs_cons (pg_name (i := 2) sc_wrong_colour.nd rfl (by first | exact Or.inl rfl | exact Or.inr rfl)) pgs_nil))) (pss_one (ps_if (pt_not (pt_truK (K := K) rfl (pe_callG (by exact hg) (ok_is_colour T) (hr.mono (by first | decide | exact Nat.le_refl _ | omega | (simp only [Nat.add_eq]; omega))) rfl T.g_is_colour T.F_is_colour.kp T.b_is_colour .nil (fun σ => passAt (takes_of rfl rfl rfl rfl) σ) (by exact (pa_cons (pv 2) pa_nil))) (fun _ => rfl))) (pss_one (ps_ret (by exact (pv 1)))) pss_nil))) (pss_one (ps_ret (by exact pe_non)))), ?_⟩
    exact body_ok (ρ := [.P a_row, .U, .U]) (J := ⟨Zo K A, lay, fun cls d _ H => E cls d H⟩) (esc := List.replicate 3 .U) (sv_frD (e := fun (s2 : Unit) => ([.P a_row, .U, .U] : Dm.Env)) (sv_wk (Wk.keep (Wk.keep (Wk.keep Wk.nil))) (sv_forF (e := fun (s2 : Unit) => ([.P a_row, .U, .U] : Dm.Env)) () (ei_en (ev_var (i := 0) (d := a_row) rfl)) wkU (tg_pair 1 2) (fun t3 s2 => (sv_if (et_not (et_tru (Ev.x (ev_call (dds := []) (ea_cons (ev_var (i := 2) (d := t3.2) rfl) ea_nil))))) wkU (sv_to (g := Fl.rt) (sv_ret (ev_var (i := 1) (d := t3.1) rfl) wkU) (fun _ => rfl)) (sv_to (g := fun _ => Fl.nx ()) sv_next (fun _ => (Wk.keep (Wk.drop (Wk.drop Wk.nil))))))))) (fun s2 => (sv_ret ev_non wkU))) ⟨cells_start (n := 2) r rfl, by simpa using wd⟩ (fun _ _ _ _ h => h) e
theorem sc__checked_cells : FnScope ["colours", "wrong"] ["colours"] (defScope s__checked_cells) := ⟨rfl, rfl, rfl, by decide +kernel, rfl, by decide +kernel, by decide +kernel⟩
theorem ok__checked_cells (T : Tx K mg A) : FnG P w K mg base (L2.CX P w) 4 A.a__checked_cells A.d__checked_cells ["colours"] (spM (Zo K A) m__checked_cells) :=
  fnD_okG T.F__checked_cells sc__checked_cells (fun vs H Q E h => spM_len (fun S ds h => match ds, h with | [], _ => rfl | [_], h => absurd rfl h | _ :: _ :: _, _ => rfl) h) fun cdv A' outer s H vs Q E hg hr h => by
    obtain ⟨S, lay, G, s0, ds, wd, r, e⟩ := h
    match ds, r, e with
    | [], _, e => exact e.elim
    | _ :: _ :: _, _, e => exact e.elim
    | [a_colours], r, e =>
    refine ⟨_, (pss_cons (ps_if (PW.pt (pw_or (pt_not (pt_truK (K := K) rfl (pe_callG (by exact hg) (ok_is_sequence T) (hr.mono (by first | decide | exact Nat.le_refl _ | omega | (simp only [Nat.add_eq]; omega))) rfl T.g_is_sequence T.F_is_sequence.kp T.b_is_sequence .nil (fun σ => passAt (takes_of rfl rfl rfl rfl) σ) (by exact (pa_cons (pv 0) pa_nil))) (fun _ => rfl))) (pw_or1 (pt_not (pt_chain op_le op_le pe_int (pe_callB (call_lnK (K := K) rfl) rfl T.n_len rfl (pa_cons (pv 0) pa_nil)) (pe_glob (v := .int 700) rfl T.k_MOST_CELLS.choose_spec ⟨_, rfl⟩)))))) (pss_one (ps_raise rfl (takes_of rfl rfl rfl rfl) (pmk_oex T.o_BadPicture T.i_BadPicture T.t_BadPicture (oki_BadPicture T) (k := 1) (hr.mono (by decide)) T.bi_BadPicture .nil passF rfl T.g_BadPicture (pa_cons pe_int (pa_cons pe_str pa_nil))))) pss_nil) (pss_cons (ps_set (i := 1) sc__checked_cells.nd rfl (by first | exact Or.inl rfl | exact Or.inr rfl) (by exact (pe_callG (by exact hg) (ok_wrong_colour T) (hr.mono (by first | decide | exact Nat.le_refl _ | omega | (simp only [Nat.add_eq]; omega))) rfl T.g_wrong_colour T.F_wrong_colour.kp T.b_wrong_colour .nil (fun σ => passAt (takes_of rfl rfl rfl rfl) σ) (by exact (pa_cons (pv 0) pa_nil))))) (pss_cons (ps_if (pt_cmpR op_notN (pv 1) pe_non (nomark _)) (pss_one (ps_raise rfl (takes_of rfl rfl rfl rfl) (pmk_oex T.o_BadPicture T.i_BadPicture T.t_BadPicture (oki_BadPicture T) (k := 1) (hr.mono (by decide)) T.bi_BadPicture .nil passF rfl T.g_BadPicture (pa_cons (pv 1) (pa_cons pe_str pa_nil))))) pss_nil) (pss_one (ps_ret (by exact (pe_callTy (call_tupK (K := K) rfl) rfl T.n_tuple rfl (pa_cons (pv 0) pa_nil)))))))), ?_⟩
    exact body_ok (ρ := [.P a_colours, .U]) (J := ⟨Zo K A, lay, fun cls d _ H => E cls d H⟩) (esc := List.replicate 2 .U) (sv_ifR (et_or (et_not (et_tru (Ev.x (ev_call (dds := []) (ea_cons (ev_var (i := 0) (d := a_colours) rfl) ea_nil))))) (et_not (et_test (ev_chain o2_le o2_le ev_int (ev_b1 o1_len (Ev.x (ev_var (i := 0) (d := a_colours) rfl))) ev_int)))) wkU (sv_raise (c := 0) (okD := okD_BadPicture) (ea_cons ev_int (ea_cons ev_str ea_nil)) wkU (okD_BadPicture_ok K A)) (sv_skip (sv_seq (e := fun (v_wrong_20 : D) => ([.P a_colours, .P v_wrong_20] : Dm.Env)) (sv_asg (ev_call (dds := []) (ea_cons (ev_var (i := 0) (d := a_colours) rfl) ea_nil)) wkU) (fun v_wrong_20 => (sv_ifR (et_test (ev_op o2_nis (Ev.x (ev_var (i := 1) (d := v_wrong_20) rfl)) (Ev.x ev_non))) wkU (sv_raise (c := 0) (okD := okD_BadPicture) (ea_cons (ev_var (i := 1) (d := v_wrong_20) rfl) (ea_cons ev_str ea_nil)) wkU (okD_BadPicture_ok K A)) (sv_skip (sv_ret (ev_b1 o1_tuple (Ev.x (ev_var (i := 0) (d := a_colours) rfl))) wkU))))))) ⟨cells_start (n := 1) r rfl, by simpa using wd⟩ (fun _ _ _ _ h => h) e
theorem sc__is_tie : FnScope ["tie", "many", "one", "other"] ["tie", "many"] (defScope s__is_tie) := ⟨rfl, rfl, rfl, by decide +kernel, rfl, by decide +kernel, by decide +kernel⟩
theorem ok__is_tie (T : Tx K mg A) : FnG P w K mg base (L2.CX P w) 3 A.a__is_tie A.d__is_tie ["tie", "many"] (spM (Zo K A) m__is_tie) :=
  fnD_okG T.F__is_tie sc__is_tie (fun vs H Q E h => spM_len (fun S ds h => match ds, h with | [], _ => rfl | [_], _ => rfl | [_, _], h => absurd rfl h | _ :: _ :: _ :: _, _ => rfl) h) fun cdv A' outer s H vs Q E hg hr h => by
    obtain ⟨S, lay, G, s0, ds, wd, r, e⟩ := h
    match ds, r, e with
    | [], _, e => exact e.elim
    | [_], _, e => exact e.elim
    | _ :: _ :: _ :: _, _, e => exact e.elim
    | [a_tie, a_many], r, e =>
    refine ⟨_, (pss_cons (ps_if (pt_not (pt_truK (K := K) rfl (pe_callG (by exact hg) (ok_is_couple T) (hr.mono (by first | decide | exact Nat.le_refl _ | omega | (simp only [Nat.add_eq]; omega))) rfl T.g_is_couple T.F_is_couple.kp T.b_is_couple .nil (fun σ => passAt (takes_of rfl rfl rfl rfl) σ) (by exact (pa_cons (pv 0) pa_nil))) (fun _ => rfl))) (pss_one (ps_ret (by exact pe_bl))) pss_nil) (pss_cons (ps_asg (pv 0) (pg_seqK (K := K) rfl (n := 2) rfl (pgs_cons (pg_name (i := 2) sc__is_tie.nd rfl (by first | exact Or.inl rfl | exact Or.inr rfl)) (pgs_cons (pg_name (i := 3) sc__is_tie.nd rfl (by first | exact Or.inl rfl | exact Or.inr rfl)) pgs_nil)))) (pss_one (ps_ret (by exact (pe_and (pe_callG (by exact hg) (ok_is_whole T) (hr.mono (by first | decide | exact Nat.le_refl _ | omega | (simp only [Nat.add_eq]; omega))) rfl T.g_is_whole T.F_is_whole.kp T.b_is_whole .nil (fun σ => passAt (takes_of rfl rfl rfl rfl) σ) (by exact (pa_cons (pv 2) (pa_cons pe_int (pa_cons (pe_op op_sub (pv 1) pe_int) pa_nil))))) (pe_and (pe_callG (by exact hg) (ok_is_whole T) (hr.mono (by first | decide | exact Nat.le_refl _ | omega | (simp only [Nat.add_eq]; omega))) rfl T.g_is_whole T.F_is_whole.kp T.b_is_whole .nil (fun σ => passAt (takes_of rfl rfl rfl rfl) σ) (by exact (pa_cons (pv 3) (pa_cons pe_int (pa_cons (pe_op op_sub (pv 1) pe_int) pa_nil))))) (pe_one (pe_cmpR (op_neK (K := K) rfl hr.units) (pv 2) (pv 3) (nomark _)))))))))), ?_⟩
    exact body_ok (ρ := [.P a_tie, .P a_many, .U, .U]) (J := ⟨Zo K A, lay, fun cls d _ H => E cls d H⟩) (esc := List.replicate 4 .U) (sv_ifR (et_not (et_tru (Ev.x (ev_call (dds := []) (ea_cons (ev_var (i := 0) (d := a_tie) rfl) ea_nil))))) wkU (sv_ret ev_bl wkU) (sv_skip (sv_seq (e := fun (t7 : D × D) => ([.P a_tie, .P a_many, .P t7.1, .P t7.2] : Dm.Env)) (sv_asgT (ev_var (i := 0) (d := a_tie) rfl) wkU (tg_pairS 2 3)) (fun t7 => (sv_ret (ev_andV (ev_call (dds := []) (ea_cons (ev_var (i := 2) (d := t7.1) rfl) (ea_cons ev_int (ea_cons (ev_op o2_sub (Ev.x (ev_var (i := 1) (d := a_many) rfl)) (Ev.x ev_int)) ea_nil)))) (ev_andV (ev_call (dds := []) (ea_cons (ev_var (i := 3) (d := t7.2) rfl) (ea_cons ev_int (ea_cons (ev_op o2_sub (Ev.x (ev_var (i := 1) (d := a_many) rfl)) (Ev.x ev_int)) ea_nil)))) (ev_op o2_ne (Ev.x (ev_var (i := 2) (d := t7.1) rfl)) (Ev.x (ev_var (i := 3) (d := t7.2) rfl))))) wkU))))) ⟨cells_start (n := 2) r rfl, by simpa using wd⟩ (fun _ _ _ _ h => h) e
theorem sc__checked_ties : FnScope ["ties", "many", "index", "tie", "one", "other"] ["ties", "many"] (defScope s__checked_ties) := ⟨rfl, rfl, rfl, by decide +kernel, rfl, by decide +kernel, by decide +kernel⟩
theorem ok__checked_ties (T : Tx K mg A) : FnG P w K mg base (L2.CX P w) 4 A.a__checked_ties A.d__checked_ties ["ties", "many"] (spM (Zo K A) m__checked_ties) :=
  fnD_okG T.F__checked_ties sc__checked_ties (fun vs H Q E h => spM_len (fun S ds h => match ds, h with | [], _ => rfl | [_], _ => rfl | [_, _], h => absurd rfl h | _ :: _ :: _ :: _, _ => rfl) h) fun cdv A' outer s H vs Q E hg hr h => by
    obtain ⟨S, lay, G, s0, ds, wd, r, e⟩ := h
    match ds, r, e with
    | [], _, e => exact e.elim
    | [_], _, e => exact e.elim
    | _ :: _ :: _ :: _, _, e => exact e.elim
    | [a_ties, a_many], r, e =>
    refine ⟨_, (pss_cons (ps_if (PW.pt (pw_or (pt_not (pt_truK (K := K) rfl (pe_callG (by exact hg) (ok_is_sequence T) (hr.mono (by first | decide | exact Nat.le_refl _ | omega | (simp only [Nat.add_eq]; omega))) rfl T.g_is_sequence T.F_is_sequence.kp T.b_is_sequence .nil (fun σ => passAt (takes_of rfl rfl rfl rfl) σ) (by exact (pa_cons (pv 0) pa_nil))) (fun _ => rfl))) (pw_or1 (pt_cmpR op_gt (pe_callB (call_lnK (K := K) rfl) rfl T.n_len rfl (pa_cons (pv 0) pa_nil)) (pe_glob (v := .int 2000) rfl T.k_MOST_TIES.choose_spec ⟨_, rfl⟩) (nomark _))))) (pss_one (ps_raise rfl (takes_of rfl rfl rfl rfl) (pmk_oex T.o_BadPicture T.i_BadPicture T.t_BadPicture (oki_BadPicture T) (k := 1) (hr.mono (by decide)) T.bi_BadPicture .nil passF rfl T.g_BadPicture (pa_cons pe_int (pa_cons pe_str pa_nil))))) pss_nil) (pss_cons (ps_for PassesOwn.leaving rfl (pi_enK (K := K) rfl rfl T.n_enumerate (pa_cons (pv 0) pa_nil)) (pg_tupK (K := K) (n := 2) rfl rfl (pgs_cons (pg_name (i := 2) sc__checked_ties.nd rfl (by first | exact Or.inl rfl | exact Or.inr rfl)) (pgs_cons (pg_name (i := 3) sc__checked_ties.nd rfl (by first | exact Or.inl rfl | exact Or.inr rfl)) pgs_nil))) (pss_one (ps_if (pt_not (pt_truK (K := K) rfl (pe_callG (by exact hg) (ok__is_tie T) (hr.mono (by first | decide | exact Nat.le_refl _ | omega | (simp only [Nat.add_eq]; omega))) rfl T.g__is_tie T.F__is_tie.kp T.b__is_tie .nil (fun σ => passAt (takes_of rfl rfl rfl rfl) σ) (by exact (pa_cons (pv 3) (pa_cons (pv 1) pa_nil)))) (fun _ => rfl))) (pss_one (ps_raise rfl (takes_of rfl rfl rfl rfl) (pmk_oex T.o_BadPicture T.i_BadPicture T.t_BadPicture (oki_BadPicture T) (k := 1) (hr.mono (by decide)) T.bi_BadPicture .nil passF rfl T.g_BadPicture (pa_cons (pv 2) (pa_cons pe_str pa_nil))))) pss_nil))) (pss_one (ps_ret (by exact (pe_callTy (call_tupK (K := K) rfl) rfl T.n_tuple rfl (pa_cons (pe_callB (cr_sortedTK (K := K) (P := P) (w := w) rfl rfl rfl rfl) rfl T.n_sorted rfl (pa_cons (pe_set (own := [("one", 4), ("other", 5)]) (kt := (ktT P w K)) (stkT P w _ K hr.units) rfl rfl sc__checked_ties.nd (pi_sqK (K := K) rfl (pv 0)) (blkOk_by (N := ["ties", "many", "index", "tie", "one", "other"]) (sc := defScope s__checked_ties) (by decide +kernel)) (fun _ _ _ _ _ => by exact (pg_seqK (K := K) rfl (n := 2) rfl (pgs_cons (pg_name (i := 4) sc__checked_ties.nd rfl (Or.inl rfl)) (pgs_cons (pg_name (i := 5) sc__checked_ties.nd rfl (Or.inl rfl)) pgs_nil)))) (fun _ _ _ _ _ => by exact pts_nil) (fun _ _ _ _ _ => by exact (pe_tup (pa_cons (pe_callB (call_min2 rfl) rfl T.n_min rfl (pa_cons (pv 4) (pa_cons (pv 5) pa_nil))) (pa_cons (pe_callB (call_max2 rfl) rfl T.n_max rfl (pa_cons (pv 4) (pa_cons (pv 5) pa_nil))) pa_nil))))) pa_nil)) pa_nil))))))), ?_⟩
    exact body_ok (ρ := [.P a_ties, .P a_many, .U, .U, .U, .U]) (J := ⟨Zo K A, lay, fun cls d _ H => E cls d H⟩) (esc := List.replicate 6 .U) (sv_ifR (et_or (et_not (et_tru (Ev.x (ev_call (dds := []) (ea_cons (ev_var (i := 0) (d := a_ties) rfl) ea_nil))))) (et_test (ev_op o2_gt (Ev.x (ev_b1 o1_len (Ev.x (ev_var (i := 0) (d := a_ties) rfl)))) (Ev.x ev_int)))) wkU (sv_raise (c := 0) (okD := okD_BadPicture) (ea_cons ev_int (ea_cons ev_str ea_nil)) wkU (okD_BadPicture_ok K A)) (sv_skip (sv_seq (e := fun (s18 : Unit) => ([.P a_ties, .P a_many, .U, .U, .U, .U] : Dm.Env)) (sv_wk (Wk.keep (Wk.keep (Wk.keep (Wk.keep (Wk.keep (Wk.keep Wk.nil)))))) (sv_forN (e := fun (s18 : Unit) => ([.P a_ties, .P a_many, .U, .U, .U, .U] : Dm.Env)) () (ei_en (ev_var (i := 0) (d := a_ties) rfl)) wkU (tg_pair 2 3) (fun t19 s18 => (sv_if (et_not (et_tru (Ev.x (ev_call (dds := []) (ea_cons (ev_var (i := 3) (d := t19.2) rfl) (ea_cons (ev_var (i := 1) (d := a_many) rfl) ea_nil)))))) wkU (sv_raise (c := 0) (okD := okD_BadPicture) (ea_cons (ev_var (i := 2) (d := t19.1) rfl) (ea_cons ev_str ea_nil)) wkU (okD_BadPicture_ok K A)) (sv_to (g := fun _ => ()) sv_next (fun _ => (Wk.keep (Wk.keep (Wk.drop (Wk.drop (Wk.keep (Wk.keep Wk.nil)))))))))))) (fun s18 => (sv_ret (ev_b1 o1_tuple (Ev.x (ev_new (el_sortscP (P := P) (w := w) (ei_sq (ev_var (i := 0) (d := a_ties) rfl)) (fun _ => (tg_pairS 4 5)) (fun t34 _ => et_yes) (fun t34 _ => (ev_tup (ea_cons (ev_b2 o2_min (Ev.x (ev_var (i := 4) (d := t34.1) rfl)) (Ev.x (ev_var (i := 5) (d := t34.2) rfl))) (ea_cons (ev_b2 o2_max (Ev.x (ev_var (i := 4) (d := t34.1) rfl)) (Ev.x (ev_var (i := 5) (d := t34.2) rfl))) ea_nil)))) (hO := (List.forall_mem_cons.2 ⟨rfl, (List.forall_mem_cons.2 ⟨rfl, (List.forall_mem_nil _)⟩)⟩)))))) wkU))))) ⟨cells_start (n := 4) r rfl, by simpa using wd⟩ (fun _ _ _ _ h => h) e
theorem sc__checked_marks : FnScope ["marks", "many", "index", "cell"] ["marks", "many"] (defScope s__checked_marks) := ⟨rfl, rfl, rfl, by decide +kernel, rfl, by decide +kernel, by decide +kernel⟩
theorem ok__checked_marks (T : Tx K mg A) : FnG P w K mg base (L2.CX P w) 3 A.a__checked_marks A.d__checked_marks ["marks", "many"] (spM (Zo K A) m__checked_marks) :=
  fnD_okG T.F__checked_marks sc__checked_marks (fun vs H Q E h => spM_len (fun S ds h => match ds, h with | [], _ => rfl | [_], _ => rfl | [_, _], h => absurd rfl h | _ :: _ :: _ :: _, _ => rfl) h) fun cdv A' outer s H vs Q E hg hr h => by
    obtain ⟨S, lay, G, s0, ds, wd, r, e⟩ := h
    match ds, r, e with
    | [], _, e => exact e.elim
    | [_], _, e => exact e.elim
    | _ :: _ :: _ :: _, _, e => exact e.elim
    | [a_marks, a_many], r, e =>
    refine ⟨_, (pss_cons (ps_if (PW.pt (pw_or (pt_not (pt_truK (K := K) rfl (pe_callG (by exact hg) (ok_is_sequence T) (hr.mono (by first | decide | exact Nat.le_refl _ | omega | (simp only [Nat.add_eq]; omega))) rfl T.g_is_sequence T.F_is_sequence.kp T.b_is_sequence .nil (fun σ => passAt (takes_of rfl rfl rfl rfl) σ) (by exact (pa_cons (pv 0) pa_nil))) (fun _ => rfl))) (pw_or1 (pt_not (pt_chain op_le op_le pe_int (pe_callB (call_lnK (K := K) rfl) rfl T.n_len rfl (pa_cons (pv 0) pa_nil)) (pe_glob (v := .int 4) rfl T.k_MOST_MARKS.choose_spec ⟨_, rfl⟩)))))) (pss_one (ps_raise rfl (takes_of rfl rfl rfl rfl) (pmk_oex T.o_BadPicture T.i_BadPicture T.t_BadPicture (oki_BadPicture T) (k := 1) (hr.mono (by decide)) T.bi_BadPicture .nil passF rfl T.g_BadPicture (pa_cons pe_int (pa_cons pe_str pa_nil))))) pss_nil) (pss_cons (ps_for PassesOwn.leaving rfl (pi_enK (K := K) rfl rfl T.n_enumerate (pa_cons (pv 0) pa_nil)) (pg_tupK (K := K) (n := 2) rfl rfl (pgs_cons (pg_name (i := 2) sc__checked_marks.nd rfl (by first | exact Or.inl rfl | exact Or.inr rfl)) (pgs_cons (pg_name (i := 3) sc__checked_marks.nd rfl (by first | exact Or.inl rfl | exact Or.inr rfl)) pgs_nil))) (pss_one (ps_if (PW.pt (pw_or (pt_not (pt_truK (K := K) rfl (pe_callG (by exact hg) (ok_is_whole T) (hr.mono (by first | decide | exact Nat.le_refl _ | omega | (simp only [Nat.add_eq]; omega))) rfl T.g_is_whole T.F_is_whole.kp T.b_is_whole .nil (fun σ => passAt (takes_of rfl rfl rfl rfl) σ) (by exact (pa_cons (pv 3) (pa_cons pe_int (pa_cons (pe_op op_sub (pv 1) pe_int) pa_nil))))) (fun _ => rfl))) (pw_or1 (pt_cmpR (op_inK (K := K) rfl) (pv 3) (pe_slice (sl_anyK (K := K) rfl) (pv 0) po_none (po_some (pv 2))) (by with_unfolding_all rfl))))) (pss_one (ps_raise rfl (takes_of rfl rfl rfl rfl) (pmk_oex T.o_BadPicture T.i_BadPicture T.t_BadPicture (oki_BadPicture T) (k := 1) (hr.mono (by decide)) T.bi_BadPicture .nil passF rfl T.g_BadPicture (pa_cons (pv 2) (pa_cons pe_str pa_nil))))) pss_nil))) (pss_one (ps_ret (by exact (pe_callTy (call_tupK (K := K) rfl) rfl T.n_tuple rfl (pa_cons (pv 0) pa_nil))))))), ?_⟩
    exact body_ok (ρ := [.P a_marks, .P a_many, .U, .U]) (J := ⟨Zo K A, lay, fun cls d _ H => E cls d H⟩) (esc := List.replicate 4 .U) (sv_ifR (et_or (et_not (et_tru (Ev.x (ev_call (dds := []) (ea_cons (ev_var (i := 0) (d := a_marks) rfl) ea_nil))))) (et_not (et_test (ev_chain o2_le o2_le ev_int (ev_b1 o1_len (Ev.x (ev_var (i := 0) (d := a_marks) rfl))) ev_int)))) wkU (sv_raise (c := 0) (okD := okD_BadPicture) (ea_cons ev_int (ea_cons ev_str ea_nil)) wkU (okD_BadPicture_ok K A)) (sv_skip (sv_seq (e := fun (s21 : Unit) => ([.P a_marks, .P a_many, .U, .U] : Dm.Env)) (sv_wk (Wk.keep (Wk.keep (Wk.keep (Wk.keep Wk.nil)))) (sv_forN (e := fun (s21 : Unit) => ([.P a_marks, .P a_many, .U, .U] : Dm.Env)) () (ei_en (ev_var (i := 0) (d := a_marks) rfl)) wkU (tg_pair 2 3) (fun t22 s21 => (sv_if (et_or (et_not (et_tru (Ev.x (ev_call (dds := []) (ea_cons (ev_var (i := 3) (d := t22.2) rfl) (ea_cons ev_int (ea_cons (ev_op o2_sub (Ev.x (ev_var (i := 1) (d := a_many) rfl)) (Ev.x ev_int)) ea_nil))))))) (et_test (ev_op o2_in (Ev.x (ev_var (i := 3) (d := t22.2) rfl)) (Ev.x (ev_sl (Ev.x (ev_var (i := 0) (d := a_marks) rfl)) eo_none (eo_some (ev_var (i := 2) (d := t22.1) rfl))))))) wkU (sv_raise (c := 0) (okD := okD_BadPicture) (ea_cons (ev_var (i := 2) (d := t22.1) rfl) (ea_cons ev_str ea_nil)) wkU (okD_BadPicture_ok K A)) (sv_to (g := fun _ => ()) sv_next (fun _ => (Wk.keep (Wk.keep (Wk.drop (Wk.drop Wk.nil)))))))))) (fun s21 => (sv_ret (ev_b1 o1_tuple (Ev.x (ev_var (i := 0) (d := a_marks) rfl))) wkU))))) ⟨cells_start (n := 2) r rfl, by simpa using wd⟩ (fun _ _ _ _ h => h) e
theorem sc_Picture__len__ : FnScope ["self"] ["self"] (defScope s_Picture__len__) := ⟨rfl, rfl, rfl, by decide +kernel, rfl, by decide +kernel, by decide +kernel⟩
theorem ok_Picture__len__ (T : Tx K mg A) : FnG P w K mg base (L2.CX P w) 1 A.a_Picture__len__ A.d_Picture__len__ ["self"] (spM (Zo K A) m_Picture__len__) :=
  fnD_okG T.F_Picture__len__ sc_Picture__len__ (fun vs H Q E h => spM_len (fun S ds h => match ds, h with | [], _ => rfl | [_], h => absurd rfl h | _ :: _ :: _, _ => rfl) h) fun cdv A' outer s H vs Q E hg hr h => by
    obtain ⟨S, lay, G, s0, ds, wd, r, e⟩ := h
    match ds, r, e with
    | [], _, e => exact e.elim
    | _ :: _ :: _, _, e => exact e.elim
    | [a_self], r, e =>
    refine ⟨_, (pss_one (ps_ret (by exact (pe_callB (call_lnK (K := K) rfl) rfl T.n_len rfl (pa_cons (pe_fldK (K := K) rfl (pv 0)) pa_nil))))), ?_⟩
    exact body_ok (ρ := [.P a_self]) (J := ⟨Zo K A, lay, fun cls d _ H => E cls d H⟩) (esc := List.replicate 1 .U) (sv_ret (ev_b1 o1_len (Ev.x (ev_fld (lo := 3) (hi := 4) T.zo (f := "colours") (Ev.x (ev_var (i := 0) (d := a_self) rfl))))) wkU) ⟨cells_start (n := 0) r rfl, by simpa using wd⟩ (fun _ _ _ _ h => h) e
theorem sc_check_cell : FnScope ["picture", "cell"] ["picture", "cell"] (defScope s_check_cell) := ⟨rfl, rfl, rfl, by decide +kernel, rfl, by decide +kernel, by decide +kernel⟩
theorem ok_check_cell (T : Tx K mg A) : FnG P w K mg base (L2.CX P w) 3 A.a_check_cell A.d_check_cell ["picture", "cell"] (spM (Zo K A) m_check_cell) :=
  fnD_okG T.F_check_cell sc_check_cell (fun vs H Q E h => spM_len (fun S ds h => match ds, h with | [], _ => rfl | [_], _ => rfl | [_, _], h => absurd rfl h | _ :: _ :: _ :: _, _ => rfl) h) fun cdv A' outer s H vs Q E hg hr h => by
    obtain ⟨S, lay, G, s0, ds, wd, r, e⟩ := h
    match ds, r, e with
    | [], _, e => exact e.elim
    | [_], _, e => exact e.elim
    | _ :: _ :: _ :: _, _, e => exact e.elim
    | [a_picture, a_cell], r, e =>
    refine ⟨_, (pss_cons (ps_if (pt_not (pt_truK (K := K) rfl (pe_callG (by exact hg) (ok_is_whole T) (hr.mono (by first | decide | exact Nat.le_refl _ | omega | (simp only [Nat.add_eq]; omega))) rfl T.g_is_whole T.F_is_whole.kp T.b_is_whole .nil (fun σ => passAt (takes_of rfl rfl rfl rfl) σ) (by exact (pa_cons (pv 1) (pa_cons pe_int (pa_cons (pe_op op_sub (pe_callB (call_lenU (K := K) rfl (by exact hg) (ok_Picture__len__ T) (hr.mono (by first | decide | exact Nat.le_refl _ | omega | (simp only [Nat.add_eq]; omega))) T.at_Picture__len__ T.if_Picture__len__ T.b_Picture__len__) rfl T.n_len rfl (pa_cons (pv 0) pa_nil)) pe_int) pa_nil))))) (fun _ => rfl))) (pss_one (ps_raise rfl (takes_of rfl rfl rfl rfl) (pmk_oex T.o_NoCell T.i_NoCell T.t_NoCell (oki_NoCell T) (k := 1) (hr.mono (by decide)) T.bi_NoCell .nil passF rfl T.g_NoCell (pa_cons (pv 1) pa_nil)))) pss_nil) (pss_one (ps_ret (by exact (pv 1))))), ?_⟩
    exact body_ok (ρ := [.P a_picture, .P a_cell]) (J := ⟨Zo K A, lay, fun cls d _ H => E cls d H⟩) (esc := List.replicate 2 .U) (sv_ifR (et_not (et_tru (Ev.x (ev_call (dds := []) (ea_cons (ev_var (i := 1) (d := a_cell) rfl) (ea_cons ev_int (ea_cons (ev_op o2_sub (Ev.x (ev_lenU (c0 := 3) (m := m_Picture__len__) (Ev.x (ev_var (i := 0) (d := a_picture) rfl)))) (Ev.x ev_int)) ea_nil))))))) wkU (sv_raise (c := 1) (okD := okD_NoCell) (ea_cons (ev_var (i := 1) (d := a_cell) rfl) ea_nil) wkU (okD_NoCell_ok K A)) (sv_skip (sv_ret (ev_var (i := 1) (d := a_cell) rfl) wkU))) ⟨cells_start (n := 0) r rfl, by simpa using wd⟩ (fun _ _ _ _ h => h) e
theorem sc_check_mark : FnScope ["marks", "mark"] ["marks", "mark"] (defScope s_check_mark) := ⟨rfl, rfl, rfl, by decide +kernel, rfl, by decide +kernel, by decide +kernel⟩
theorem ok_check_mark (T : Tx K mg A) : FnG P w K mg base (L2.CX P w) 3 A.a_check_mark A.d_check_mark ["marks", "mark"] (spM (Zo K A) m_check_mark) :=
  fnD_okG T.F_check_mark sc_check_mark (fun vs H Q E h => spM_len (fun S ds h => match ds, h with | [], _ => rfl | [_], _ => rfl | [_, _], h => absurd rfl h | _ :: _ :: _ :: _, _ => rfl) h) fun cdv A' outer s H vs Q E hg hr h => by
    obtain ⟨S, lay, G, s0, ds, wd, r, e⟩ := h
    match ds, r, e with
    | [], _, e => exact e.elim
    | [_], _, e => exact e.elim
    | _ :: _ :: _ :: _, _, e => exact e.elim
    | [a_marks, a_mark], r, e =>
    refine ⟨_, (pss_cons (ps_if (pt_not (pt_truK (K := K) rfl (pe_callG (by exact hg) (ok_is_whole T) (hr.mono (by first | decide | exact Nat.le_refl _ | omega | (simp only [Nat.add_eq]; omega))) rfl T.g_is_whole T.F_is_whole.kp T.b_is_whole .nil (fun σ => passAt (takes_of rfl rfl rfl rfl) σ) (by exact (pa_cons (pv 1) (pa_cons pe_int (pa_cons (pe_op op_sub (pv 0) pe_int) pa_nil))))) (fun _ => rfl))) (pss_one (ps_raise rfl (takes_of rfl rfl rfl rfl) (pmk_oex T.o_NoMark T.i_NoMark T.t_NoMark (oki_NoMark T) (k := 1) (hr.mono (by decide)) T.bi_NoMark .nil passF rfl T.g_NoMark (pa_cons (pv 1) pa_nil)))) pss_nil) (pss_one (ps_ret (by exact (pv 1))))), ?_⟩
    exact body_ok (ρ := [.P a_marks, .P a_mark]) (J := ⟨Zo K A, lay, fun cls d _ H => E cls d H⟩) (esc := List.replicate 2 .U) (sv_ifR (et_not (et_tru (Ev.x (ev_call (dds := []) (ea_cons (ev_var (i := 1) (d := a_mark) rfl) (ea_cons ev_int (ea_cons (ev_op o2_sub (Ev.x (ev_var (i := 0) (d := a_marks) rfl)) (Ev.x ev_int)) ea_nil))))))) wkU (sv_raise (c := 2) (okD := okD_NoMark) (ea_cons (ev_var (i := 1) (d := a_mark) rfl) ea_nil) wkU (okD_NoMark_ok K A)) (sv_skip (sv_ret (ev_var (i := 1) (d := a_mark) rfl) wkU))) ⟨cells_start (n := 0) r rfl, by simpa using wd⟩ (fun _ _ _ _ h => h) e
theorem sc_near_lists : FnScope ["many", "ties", "near", "less", "greater", "cell"] ["many", "ties"] (defScope s_near_lists) := ⟨rfl, rfl, rfl, by decide +kernel, rfl, by decide +kernel, by decide +kernel⟩
theorem ok_near_lists (T : Tx K mg A) : FnG P w K mg base (L2.CX P w) 1 A.a_near_lists A.d_near_lists ["many", "ties"] (spM (Zo K A) m_near_lists) :=
  fnD_okG T.F_near_lists sc_near_lists (fun vs H Q E h => spM_len (fun S ds h => match ds, h with | [], _ => rfl | [_], _ => rfl | [_, _], h => absurd rfl h | _ :: _ :: _ :: _, _ => rfl) h) fun cdv A' outer s H vs Q E hg hr h => by
    obtain ⟨S, lay, G, s0, ds, wd, r, e⟩ := h
    match ds, r, e with
    | [], _, e => exact e.elim
    | [_], _, e => exact e.elim
    | _ :: _ :: _ :: _, _, e => exact e.elim
    | [a_many, a_ties], r, e =>
    refine ⟨_, (pss_cons (ps_setLc (i := 2) (own := [("cell", 5)]) rfl sc_near_lists.nd rfl rfl (sw_true rfl rfl rfl (by decide +kernel)) (pi_range1 rfl T.n_range (pa_cons (pv 0) pa_nil)) (blkOk_by (N := ["many", "ties", "near", "less", "greater", "cell"]) (sc := defScope s_near_lists) (by decide +kernel)) (fun _ _ _ _ _ => by exact (pg_name (i := 5) sc_near_lists.nd rfl (Or.inl rfl))) (fun _ _ _ _ _ => by exact pts_nil) (fun _ _ _ _ _ => by exact (pe_lst pa_nil))) (pss_cons (ps_for PassesOwn.leaving rfl (pi_sqK (K := K) rfl (pv 1)) (pg_seqK (K := K) rfl (n := 2) rfl (pgs_cons (pg_name (i := 3) sc_near_lists.nd rfl (by first | exact Or.inl rfl | exact Or.inr rfl)) (pgs_cons (pg_name (i := 4) sc_near_lists.nd rfl (by first | exact Or.inl rfl | exact Or.inr rfl)) pgs_nil))) (pss_cons (ps_expr (pe_bm PySem.F.plainAttrs_list PySem.F.slot_list_append PySem.F.type_list_append mt_append (pe_ix (ix_seqK (K := K) rfl) (pv 2) (pv 3) (fun _ _ => rfl)) (pa_cons (pv 4) pa_nil))) (pss_cons (ps_expr (pe_bm PySem.F.plainAttrs_list PySem.F.slot_list_append PySem.F.type_list_append mt_append (pe_ix (ix_seqK (K := K) rfl) (pv 2) (pv 4) (fun _ _ => rfl)) (pa_cons (pv 3) pa_nil))) pss_nil))) (pss_one (ps_ret (by exact (pv 2)))))), ?_⟩
    exact body_ok (ρ := [.P a_many, .P a_ties, .U, .U, .U, .U]) (J := ⟨Zo K A, lay, fun cls d _ H => E cls d H⟩) (esc := List.replicate 6 .U) (sv_seq (e := fun (v_near_1 : List (List D)) => ([.P a_many, .P a_ties, .Q v_near_1, .U, .U, .U] : Dm.Env)) (sv_asgQ (eq_lc (ei_r1 (ea_cons (ev_var (i := 0) (d := a_many) rfl) ea_nil)) (fun _ => (tg_name 5)) (fun t5 _ => (el_lst ea_nil)) (hO := (List.forall_mem_cons.2 ⟨rfl, (List.forall_mem_nil _)⟩))) wkU (hi := Nat.le_of_ble_eq_true rfl)) (fun v_near_1 => (sv_seq (e := fun (s10 : List (List D)) => ([.P a_many, .P a_ties, .Q s10, .U, .U, .U] : Dm.Env)) (sv_wk (Wk.keep (Wk.keep (Wk.keep (Wk.keep (Wk.keep (Wk.keep Wk.nil)))))) (sv_forN (e := fun (s10 : List (List D)) => ([.P a_many, .P a_ties, .Q s10, .U, .U, .U] : Dm.Env)) v_near_1 (ei_sq (ev_var (i := 1) (d := a_ties) rfl)) wkU (tg_pairS 3 4) (fun t11 s10 => (sv_seq (e := fun (qs15 : List (List D)) => ([.P a_many, .P a_ties, .Q qs15, .P t11.1, .P t11.2, .U] : Dm.Env)) (sv_appQ (i := 2) rfl (ev_var (i := 3) (d := t11.1) rfl) (ev_var (i := 4) (d := t11.2) rfl) wkU) (fun qs15 => (sv_seq (e := fun (qs19 : List (List D)) => ([.P a_many, .P a_ties, .Q qs19, .P t11.1, .P t11.2, .U] : Dm.Env)) (sv_appQ (i := 2) rfl (ev_var (i := 4) (d := t11.2) rfl) (ev_var (i := 3) (d := t11.1) rfl) wkU) (fun qs19 => (sv_to (g := fun _ => qs19) sv_next (fun _ => (Wk.keep (Wk.keep (Wk.keep (Wk.drop (Wk.drop (Wk.keep Wk.nil))))))))))))))) (fun s10 => (sv_frzQ (i := 2) (dss := s10) rfl <| sv_frz (i := 2) (ds := (s10.map D.lst)) rfl <| (sv_ret (ev_var (i := 2) (d := (.lst (s10.map D.lst))) rfl) wkU)))))) ⟨cells_start (n := 4) r rfl, by simpa using wd⟩ (fun _ _ _ _ h => h) e
theorem sc_neighbours_of : FnScope ["picture", "cell"] ["picture", "cell"] (defScope s_neighbours_of) := ⟨rfl, rfl, rfl, by decide +kernel, rfl, by decide +kernel, by decide +kernel⟩
theorem ok_neighbours_of (T : Tx K mg A) : FnG P w K mg base (L2.CX P w) 4 A.a_neighbours_of A.d_neighbours_of ["picture", "cell"] (spM (Zo K A) m_neighbours_of) :=
  fnD_okG T.F_neighbours_of sc_neighbours_of (fun vs H Q E h => spM_len (fun S ds h => match ds, h with | [], _ => rfl | [_], _ => rfl | [_, _], h => absurd rfl h | _ :: _ :: _ :: _, _ => rfl) h) fun cdv A' outer s H vs Q E hg hr h => by
    obtain ⟨S, lay, G, s0, ds, wd, r, e⟩ := h
    match ds, r, e with
    | [], _, e => exact e.elim
    | [_], _, e => exact e.elim
    | _ :: _ :: _ :: _, _, e => exact e.elim
    | [a_picture, a_cell], r, e =>
    refine ⟨_, (pss_cons (ps_expr (by exact (pe_callG (by exact hg) (ok_check_cell T) (hr.mono (by first | decide | exact Nat.le_refl _ | omega | (simp only [Nat.add_eq]; omega))) rfl T.g_check_cell T.F_check_cell.kp T.b_check_cell .nil (fun σ => passAt (takes_of rfl rfl rfl rfl) σ) (by exact (pa_cons (pv 0) (pa_cons (pv 1) pa_nil)))))) (pss_one (ps_ret (by exact (pe_callTy (call_tupK (K := K) rfl) rfl T.n_tuple rfl (pa_cons (pe_ix (ix_seqK (K := K) rfl) (pe_callG (by exact hg) (ok_near_lists T) (hr.mono (by first | decide | exact Nat.le_refl _ | omega | (simp only [Nat.add_eq]; omega))) rfl T.g_near_lists T.F_near_lists.kp T.b_near_lists .nil (fun σ => passAt (takes_of rfl rfl rfl rfl) σ) (by exact (pa_cons (pe_callB (call_lenU (K := K) rfl (by exact hg) (ok_Picture__len__ T) (hr.mono (by first | decide | exact Nat.le_refl _ | omega | (simp only [Nat.add_eq]; omega))) T.at_Picture__len__ T.if_Picture__len__ T.b_Picture__len__) rfl T.n_len rfl (pa_cons (pv 0) pa_nil)) (pa_cons (pe_fldK (K := K) rfl (pv 0)) pa_nil)))) (pv 1) (fun _ _ => rfl)) pa_nil)))))), ?_⟩
    exact body_ok (ρ := [.P a_picture, .P a_cell]) (J := ⟨Zo K A, lay, fun cls d _ H => E cls d H⟩) (esc := List.replicate 2 .U) (sv_seq (e := fun (_ : D) => ([.P a_picture, .P a_cell] : Dm.Env)) (sv_drop (ev_call (dds := []) (ea_cons (ev_var (i := 0) (d := a_picture) rfl) (ea_cons (ev_var (i := 1) (d := a_cell) rfl) ea_nil))) wkU) (fun _ => (sv_ret (ev_b1 o1_tuple (Ev.x (ev_op o2_ix (Ev.x (ev_call (dds := []) (ea_cons (ev_lenU (c0 := 3) (m := m_Picture__len__) (Ev.x (ev_var (i := 0) (d := a_picture) rfl))) (ea_cons (ev_fld (lo := 3) (hi := 4) T.zo (f := "ties") (Ev.x (ev_var (i := 0) (d := a_picture) rfl))) ea_nil)))) (Ev.x (ev_var (i := 1) (d := a_cell) rfl))))) wkU))) ⟨cells_start (n := 0) r rfl, by simpa using wd⟩ (fun _ _ _ _ h => h) e
theorem sc_Picture__init__ : FnScope ["self", "colours", "ties", "marks"] ["self", "colours", "ties", "marks"] (defScope s_Picture__init__) := ⟨rfl, rfl, rfl, by decide +kernel, rfl, by decide +kernel, by decide +kernel⟩
theorem ok_Picture__init__ (T : Tx K mg A) : FnG P w K mg base (L2.CX P w) 5 A.a_Picture__init__ A.d_Picture__init__ ["self", "colours", "ties", "marks"] (spI (Zo K A) 3 m_Picture__init__) :=
  fnD_okG T.F_Picture__init__ sc_Picture__init__ (fun vs H Q E h => spI_len (n := 3) (fun S ds h => match ds, h with | [], _ => rfl | [_], _ => rfl | [_, _], _ => rfl | [_, _, _], h => absurd rfl h | _ :: _ :: _ :: _ :: _, _ => rfl) h) fun cdv A' outer s H vs Q E hg hr h => by
    obtain ⟨S, lay, G, s0, us, ds, x, dx, rfl, wd, r, e⟩ := h
    match ds, r, e with
    | [], _, e => exact e.elim
    | [_], _, e => exact e.elim
    | [_, _], _, e => exact e.elim
    | _ :: _ :: _ :: _ :: _, _, e => exact e.elim
    | [a_colours, a_ties, a_marks], r, e =>
    refine ⟨_, (pss_cons (ps_fldK (K := K) rfl (pv 0) (pe_callG (by exact hg) (ok__checked_cells T) (hr.mono (by first | decide | exact Nat.le_refl _ | omega | (simp only [Nat.add_eq]; omega))) rfl T.g__checked_cells T.F__checked_cells.kp T.b__checked_cells .nil (fun σ => passAt (takes_of rfl rfl rfl rfl) σ) (by exact (pa_cons (pv 1) pa_nil)))) (pss_cons (ps_fldK (K := K) rfl (pv 0) (pe_callG (by exact hg) (ok__checked_ties T) (hr.mono (by first | decide | exact Nat.le_refl _ | omega | (simp only [Nat.add_eq]; omega))) rfl T.g__checked_ties T.F__checked_ties.kp T.b__checked_ties .nil (fun σ => passAt (takes_of rfl rfl rfl rfl) σ) (by exact (pa_cons (pv 2) (pa_cons (pe_callB (call_lnK (K := K) rfl) rfl T.n_len rfl (pa_cons (pe_fldK (K := K) rfl (pv 0)) pa_nil)) pa_nil))))) (pss_cons (ps_fldK (K := K) rfl (pv 0) (pe_callG (by exact hg) (ok__checked_marks T) (hr.mono (by first | decide | exact Nat.le_refl _ | omega | (simp only [Nat.add_eq]; omega))) rfl T.g__checked_marks T.F__checked_marks.kp T.b__checked_marks .nil (fun σ => passAt (takes_of rfl rfl rfl rfl) σ) (by exact (pa_cons (pv 3) (pa_cons (pe_callB (call_lnK (K := K) rfl) rfl T.n_len rfl (pa_cons (pe_fldK (K := K) rfl (pv 0)) pa_nil)) pa_nil))))) pss_nil))), ?_⟩
    exact init_body (J := ⟨Zo K A, lay, fun cls d _ H => E cls d H⟩) (c := 3) (n := 0) (init_set (lo := 3) (hi := 4) T.zo (by decide) rfl (fun x dx xs ds hl => (ev_call (dds := []) (ea_cons (ev_var (i := 1) (d := a_colours) rfl) ea_nil))) (init_set (lo := 3) (hi := 4) T.zo (by decide) rfl (fun x dx xs ds hl => (ev_call (dds := []) (ea_cons (ev_var (i := 2) (d := a_ties) rfl) (ea_cons (ev_b1 o1_len (Ev.x (ev_selfL (lo := 3) (hi := 4) T.zo (c := 3) (by decide)))) ea_nil)))) (init_set (lo := 3) (hi := 4) T.zo (by decide) rfl (fun x dx xs ds hl => (ev_call (dds := []) (ea_cons (ev_var (i := 3) (d := a_marks) rfl) (ea_cons (ev_b1 o1_len (Ev.x (ev_selfL (lo := 3) (hi := 4) T.zo (c := 3) (by decide)))) ea_nil)))) (init_nil rfl)))) r wd rfl (fun _ _ _ _ h => h) e
theorem sc_with_colours : FnScope ["picture", "colours"] ["picture", "colours"] (defScope s_with_colours) := ⟨rfl, rfl, rfl, by decide +kernel, rfl, by decide +kernel, by decide +kernel⟩
theorem ok_with_colours (T : Tx K mg A) : FnG P w K mg base (L2.CX P w) 7 A.a_with_colours A.d_with_colours ["picture", "colours"] (spM (Zo K A) m_with_colours) :=
  fnD_okG T.F_with_colours sc_with_colours (fun vs H Q E h => spM_len (fun S ds h => match ds, h with | [], _ => rfl | [_], _ => rfl | [_, _], h => absurd rfl h | _ :: _ :: _ :: _, _ => rfl) h) fun cdv A' outer s H vs Q E hg hr h => by
    obtain ⟨S, lay, G, s0, ds, wd, r, e⟩ := h
    match ds, r, e with
    | [], _, e => exact e.elim
    | [_], _, e => exact e.elim
    | _ :: _ :: _ :: _, _, e => exact e.elim
    | [a_picture, a_colours], r, e =>
    refine ⟨_, (pss_cons (ps_if (PW.pt (pw_and (pt_truK (K := K) rfl (pe_callG (by exact hg) (ok_is_sequence T) (hr.mono (by first | decide | exact Nat.le_refl _ | omega | (simp only [Nat.add_eq]; omega))) rfl T.g_is_sequence T.F_is_sequence.kp T.b_is_sequence .nil (fun σ => passAt (takes_of rfl rfl rfl rfl) σ) (by exact (pa_cons (pv 1) pa_nil))) (fun _ => rfl)) (pw_and1 (pt_cmpR (op_neK (K := K) rfl hr.units) (pe_callB (call_lnK (K := K) rfl) rfl T.n_len rfl (pa_cons (pv 1) pa_nil)) (pe_callB (call_lenU (K := K) rfl (by exact hg) (ok_Picture__len__ T) (hr.mono (by first | decide | exact Nat.le_refl _ | omega | (simp only [Nat.add_eq]; omega))) T.at_Picture__len__ T.if_Picture__len__ T.b_Picture__len__) rfl T.n_len rfl (pa_cons (pv 0) pa_nil)) (nomark _))))) (pss_one (ps_raise rfl (takes_of rfl rfl rfl rfl) (pmk_oex T.o_BadPicture T.i_BadPicture T.t_BadPicture (oki_BadPicture T) (k := 1) (hr.mono (by decide)) T.bi_BadPicture .nil passF rfl T.g_BadPicture (pa_cons pe_int (pa_cons pe_str pa_nil))))) pss_nil) (pss_one (ps_ret (by exact (pe_makeG (by exact hg) T.mk_Picture (ok_Picture__init__ T) (hr.mono (by first | decide | exact Nat.le_refl _ | omega | (simp only [Nat.add_eq]; omega))) rfl T.g_Picture T.b_Picture__init__ .nil (fun σ => passAt (takes_of rfl rfl rfl rfl) σ) (by exact (pa_cons (pv 1) (pa_cons (pe_fldK (K := K) rfl (pv 0)) (pa_cons (pe_fldK (K := K) rfl (pv 0)) pa_nil))))))))), ?_⟩
    exact body_ok (ρ := [.P a_picture, .P a_colours]) (J := ⟨Zo K A, lay, fun cls d _ H => E cls d H⟩) (esc := List.replicate 2 .U) (sv_ifR (et_and (et_tru (Ev.x (ev_call (dds := []) (ea_cons (ev_var (i := 1) (d := a_colours) rfl) ea_nil)))) (et_test (ev_op o2_ne (Ev.x (ev_b1 o1_len (Ev.x (ev_var (i := 1) (d := a_colours) rfl)))) (Ev.x (ev_lenU (c0 := 3) (m := m_Picture__len__) (Ev.x (ev_var (i := 0) (d := a_picture) rfl))))))) wkU (sv_raise (c := 0) (okD := okD_BadPicture) (ea_cons ev_int (ea_cons ev_str ea_nil)) wkU (okD_BadPicture_ok K A)) (sv_skip (sv_ret (ev_make (c := 3) (m := m_Picture__init__) (dvs := []) (dds := []) (ea_cons (ev_var (i := 1) (d := a_colours) rfl) (ea_cons (ev_fld (lo := 3) (hi := 4) T.zo (f := "ties") (Ev.x (ev_var (i := 0) (d := a_picture) rfl))) (ea_cons (ev_fld (lo := 3) (hi := 4) T.zo (f := "marks") (Ev.x (ev_var (i := 0) (d := a_picture) rfl))) ea_nil)))) wkU))) ⟨cells_start (n := 0) r rfl, by simpa using wd⟩ (fun _ _ _ _ h => h) e
theorem sc_with_marks : FnScope ["picture", "marks"] ["picture", "marks"] (defScope s_with_marks) := ⟨rfl, rfl, rfl, by decide +kernel, rfl, by decide +kernel, by decide +kernel⟩
theorem ok_with_marks (T : Tx K mg A) : FnG P w K mg base (L2.CX P w) 7 A.a_with_marks A.d_with_marks ["picture", "marks"] (spM (Zo K A) m_with_marks) :=
  fnD_okG T.F_with_marks sc_with_marks (fun vs H Q E h => spM_len (fun S ds h => match ds, h with | [], _ => rfl | [_], _ => rfl | [_, _], h => absurd rfl h | _ :: _ :: _ :: _, _ => rfl) h) fun cdv A' outer s H vs Q E hg hr h => by
    obtain ⟨S, lay, G, s0, ds, wd, r, e⟩ := h
    match ds, r, e with
    | [], _, e => exact e.elim
    | [_], _, e => exact e.elim
    | _ :: _ :: _ :: _, _, e => exact e.elim
    | [a_picture, a_marks], r, e =>
    refine ⟨_, (pss_one (ps_ret (by exact (pe_makeG (by exact hg) T.mk_Picture (ok_Picture__init__ T) (hr.mono (by first | decide | exact Nat.le_refl _ | omega | (simp only [Nat.add_eq]; omega))) rfl T.g_Picture T.b_Picture__init__ .nil (fun σ => passAt (takes_of rfl rfl rfl rfl) σ) (by exact (pa_cons (pe_fldK (K := K) rfl (pv 0)) (pa_cons (pe_fldK (K := K) rfl (pv 0)) (pa_cons (pv 1) pa_nil)))))))), ?_⟩
    exact body_ok (ρ := [.P a_picture, .P a_marks]) (J := ⟨Zo K A, lay, fun cls d _ H => E cls d H⟩) (esc := List.replicate 2 .U) (sv_ret (ev_make (c := 3) (m := m_Picture__init__) (dvs := []) (dds := []) (ea_cons (ev_fld (lo := 3) (hi := 4) T.zo (f := "colours") (Ev.x (ev_var (i := 0) (d := a_picture) rfl))) (ea_cons (ev_fld (lo := 3) (hi := 4) T.zo (f := "ties") (Ev.x (ev_var (i := 0) (d := a_picture) rfl))) (ea_cons (ev_var (i := 1) (d := a_marks) rfl) ea_nil)))) wkU) ⟨cells_start (n := 0) r rfl, by simpa using wd⟩ (fun _ _ _ _ h => h) e
theorem sc__law_mixed : FnScope ["_law_number", "_law_turn", "_law_once", "_law_twice"] ["_law_number", "_law_turn"] (defScope s__law_mixed) := ⟨rfl, rfl, rfl, by decide +kernel, rfl, by decide +kernel, by decide +kernel⟩
theorem ok__law_mixed (T : Tx K mg A) : FnG P w K mg base (L2.CX P w) 1 A.a__law_mixed A.d__law_mixed ["_law_number", "_law_turn"] (spM (Zo K A) m__law_mixed) :=
  fnD_okG T.F__law_mixed sc__law_mixed (fun vs H Q E h => spM_len (fun S ds h => match ds, h with | [], _ => rfl | [_], _ => rfl | [_, _], h => absurd rfl h | _ :: _ :: _ :: _, _ => rfl) h) fun cdv A' outer s H vs Q E hg hr h => by
    obtain ⟨S, lay, G, s0, ds, wd, r, e⟩ := h
    match ds, r, e with
    | [], _, e => exact e.elim
    | [_], _, e => exact e.elim
    | _ :: _ :: _ :: _, _, e => exact e.elim
    | [a_number, a_turn], r, e =>
    refine ⟨_, (pss_cons (ps_set (i := 2) sc__law_mixed.nd rfl (by first | exact Or.inl rfl | exact Or.inr rfl) (by exact (pe_op op_modN (pe_callTy call_int1 rfl T.n_int rfl (pa_cons (pe_op (op_addK (K := K) rfl) (pe_op (op_addK (K := K) rfl) (pe_op op_mulG (pv 0) pe_int) (pe_op op_mulG (pv 1) pe_int)) pe_int) pa_nil)) pe_int))) (pss_cons (ps_set (i := 3) sc__law_mixed.nd rfl (by first | exact Or.inl rfl | exact Or.inr rfl) (by exact (pe_op op_modN (pe_callTy call_int1 rfl T.n_int rfl (pa_cons (pe_op (op_addK (K := K) rfl) (pe_op (op_addK (K := K) rfl) (pe_op op_mulG (pv 2) (pv 2)) (pe_op op_mulG (pv 1) pe_int)) (pe_op op_fdivW (pv 2) pe_int)) pa_nil)) pe_int))) (pss_one (ps_ret (by exact (pe_op op_fdivW (pe_callTy call_int1 rfl T.n_int rfl (pa_cons (pe_op op_modN (pe_callTy call_int1 rfl T.n_int rfl (pa_cons (pe_op (op_addK (K := K) rfl) (pe_op op_mulG (pv 3) pe_int) (pe_op op_fdivW (pv 2) pe_int)) pa_nil)) pe_int) pa_nil)) pe_int)))))), ?_⟩
    exact body_ok (ρ := [.P a_number, .P a_turn, .U, .U]) (J := ⟨Zo K A, lay, fun cls d _ H => E cls d H⟩) (esc := List.replicate 4 .U) (sv_seq (e := fun (v_once_1 : D) => ([.P a_number, .P a_turn, .P v_once_1, .U] : Dm.Env)) (sv_asg (ev_op o2_mod (Ev.x (ev_b1 o1_int (Ev.x (ev_op o2_add (Ev.x (ev_op o2_add (Ev.x (ev_op o2_mul (Ev.x (ev_var (i := 0) (d := a_number) rfl)) (Ev.x ev_int))) (Ev.x (ev_op o2_mul (Ev.x (ev_var (i := 1) (d := a_turn) rfl)) (Ev.x ev_int))))) (Ev.x ev_int))))) (Ev.x ev_int)) wkU) (fun v_once_1 => (sv_seq (e := fun (v_twice_13 : D) => ([.P a_number, .P a_turn, .P v_once_1, .P v_twice_13] : Dm.Env)) (sv_asg (ev_op o2_mod (Ev.x (ev_b1 o1_int (Ev.x (ev_op o2_add (Ev.x (ev_op o2_add (Ev.x (ev_op o2_mul (Ev.x (ev_var (i := 2) (d := v_once_1) rfl)) (Ev.x (ev_var (i := 2) (d := v_once_1) rfl)))) (Ev.x (ev_op o2_mul (Ev.x (ev_var (i := 1) (d := a_turn) rfl)) (Ev.x ev_int))))) (Ev.x (ev_op o2_div (Ev.x (ev_var (i := 2) (d := v_once_1) rfl)) (Ev.x ev_int))))))) (Ev.x ev_int)) wkU) (fun v_twice_13 => (sv_ret (ev_op o2_div (Ev.x (ev_b1 o1_int (Ev.x (ev_op o2_mod (Ev.x (ev_b1 o1_int (Ev.x (ev_op o2_add (Ev.x (ev_op o2_mul (Ev.x (ev_var (i := 3) (d := v_twice_13) rfl)) (Ev.x ev_int))) (Ev.x (ev_op o2_div (Ev.x (ev_var (i := 2) (d := v_once_1) rfl)) (Ev.x ev_int))))))) (Ev.x ev_int))))) (Ev.x ev_int)) wkU))))) ⟨cells_start (n := 2) r rfl, by simpa using wd⟩ (fun _ _ _ _ h => h) e
theorem sc__law_take : FnScope ["_law_hand_here", "_law_many", "_law_cell_here", "_law_rest"] ["_law_hand_here", "_law_many"] (defScope s__law_take) := ⟨rfl, rfl, rfl, by decide +kernel, rfl, by decide +kernel, by decide +kernel⟩
theorem ok__law_take (T : Tx K mg A) : FnG P w K mg base (L2.CX P w) 2 A.a__law_take A.d__law_take ["_law_hand_here", "_law_many"] (spD (Zo K A) m__law_take) :=
  fnD_okG T.F__law_take sc__law_take (fun vs H Q E h => spD_len (fun cs ds h => match ds, h with | [], _ => rfl | [_], h => absurd rfl h | _ :: _ :: _, _ => rfl) h) fun cdv A' outer s H vs Q E hg hr h => by
    obtain ⟨p, c, cells, L0, G, s0, vs', ds, rfl, hf, wd, r, e⟩ := h
    have hJ : HandJ (⟨Zo K A, fun h => (p, hHO c h) :: L0, fun cls d _ H => E cls d H⟩ : Jc Hd) p c := ⟨[], L0, fun _ => rfl⟩
    match ds, r, e with
    | [], _, e => exact e.elim
    | _ :: _ :: _, _, e => exact e.elim
    | [a_many], r, e =>
    refine ⟨_, (pss_cons (ps_if (PW.pt (pw_and (pt_cmpR (op_eqK (K := K) rfl hr.units) (pe_ix (ix_seqK (K := K) rfl) (pv 0) pe_int (fun _ _ => rfl)) pe_int (nomark _)) (pw_and1 (pt_cmpR op_lt (pe_ix (ix_seqK (K := K) rfl) (pv 0) pe_int (fun _ _ => rfl)) (pe_callB (call_lnK (K := K) rfl) rfl T.n_len rfl (pa_cons (pe_ix (ix_seqK (K := K) rfl) (pv 0) pe_int (fun _ _ => rfl)) pa_nil)) (nomark _))))) (pss_cons (ps_set (i := 2) sc__law_take.nd rfl (by first | exact Or.inl rfl | exact Or.inr rfl) (by exact (pe_ix (ix_seqK (K := K) rfl) (pe_ix (ix_seqK (K := K) rfl) (pv 0) pe_int (fun _ _ => rfl)) (pe_ix (ix_seqK (K := K) rfl) (pv 0) pe_int (fun _ _ => rfl)) (fun _ _ => rfl)))) (pss_cons (ps_asg (pe_op (op_addK (K := K) rfl) (pe_ix (ix_seqK (K := K) rfl) (pv 0) pe_int (fun _ _ => rfl)) pe_int) (pg_sub (pv 0) pe_int set_list)) (pss_cons (ps_if (pt_cmpR op_lt (pv 2) (pe_op op_pow pe_int pe_int) (nomark _)) (pss_one (ps_ret (by exact (pe_op op_modN (pe_callTy call_int1 rfl T.n_int rfl (pa_cons (pe_callG (by exact hg) (ok__law_mixed T) (hr.mono (by first | decide | exact Nat.le_refl _ | omega | (simp only [Nat.add_eq]; omega))) rfl T.g__law_mixed T.F__law_mixed.kp T.b__law_mixed .nil (fun σ => passAt (takes_of rfl rfl rfl rfl) σ) (by exact (pa_cons (pe_op op_modN (pe_callTy call_int1 rfl T.n_int rfl (pa_cons (pv 2) pa_nil)) pe_int) (pa_cons (pe_ix (ix_seqK (K := K) rfl) (pv 0) pe_int (fun _ _ => rfl)) pa_nil)))) pa_nil)) (pv 1))))) pss_nil) (pss_cons (ps_asg (pv 2) (pg_sub (pv 0) pe_int set_list)) pss_nil)))) pss_nil) (pss_cons (ps_if (pt_cmpR op_gt (pe_ix (ix_seqK (K := K) rfl) (pv 0) pe_int (fun _ _ => rfl)) pe_int (nomark _)) (pss_cons (ps_set (i := 3) sc__law_take.nd rfl (by first | exact Or.inl rfl | exact Or.inr rfl) (by exact (pe_ix (ix_seqK (K := K) rfl) (pv 0) pe_int (fun _ _ => rfl)))) (pss_cons (ps_asg (pe_op op_fdivW (pe_callTy call_int1 rfl T.n_int rfl (pa_cons (pv 3) pa_nil)) (pv 1)) (pg_sub (pv 0) pe_int set_list)) (pss_one (ps_ret (by exact (pe_op op_modN (pe_callTy call_int1 rfl T.n_int rfl (pa_cons (pv 3) pa_nil)) (pv 1))))))) pss_nil) (pss_cons (ps_asg (pe_op op_modN (pe_callTy call_int1 rfl T.n_int rfl (pa_cons (pe_op (op_addK (K := K) rfl) (pe_ix (ix_seqK (K := K) rfl) (pv 0) pe_int (fun _ _ => rfl)) pe_int) pa_nil)) pe_int) (pg_sub (pv 0) pe_int set_list)) (pss_one (ps_ret (by exact (pe_op op_modN (pe_callTy call_int1 rfl T.n_int rfl (pa_cons (pe_callG (by exact hg) (ok__law_mixed T) (hr.mono (by first | decide | exact Nat.le_refl _ | omega | (simp only [Nat.add_eq]; omega))) rfl T.g__law_mixed T.F__law_mixed.kp T.b__law_mixed .nil (fun σ => passAt (takes_of rfl rfl rfl rfl) σ) (by exact (pa_cons (pe_ix (ix_seqK (K := K) rfl) (pv 0) pe_int (fun _ _ => rfl)) (pa_cons (pe_ix (ix_seqK (K := K) rfl) (pv 0) pe_int (fun _ _ => rfl)) pa_nil)))) pa_nil)) (pv 1)))))))), ?_⟩
    exact bodyD_ok (ρ := [.A p (hF c cells), .P a_many, .U, .U]) (J := ⟨Zo K A, fun h => (p, hHO c h) :: L0, fun cls d _ H => E cls d H⟩) (esc := List.replicate 4 .U) (sv_frD (e := fun (s10 : Unit) => ([.A p (hF c cells), .P a_many, .U, .U] : Dm.Env)) (sv_if (et_and (et_test (ev_op o2_eq (Ev.x (ev_hget (cells := cells) 2 hJ rfl)) (Ev.x ev_int))) (et_test (ev_op o2_lt (Ev.x (ev_hget (cells := cells) 1 hJ rfl)) (Ev.x (ev_b1 o1_len (Ev.x (ev_hget (cells := cells) 0 hJ rfl))))))) wkU (sv_seq (e := fun (v_cell_here_11 : D) => ([.A p (hF c cells), .P a_many, .P v_cell_here_11, .U] : Dm.Env)) (sv_asg (ev_op o2_ix (Ev.x (ev_hget (cells := cells) 0 hJ rfl)) (Ev.x (ev_hget (cells := cells) 1 hJ rfl))) wkU) (fun v_cell_here_11 => (sv_seq (e := fun (_ : Unit) => ([.A p (hF c cells), .P a_many, .P v_cell_here_11, .U] : Dm.Env)) (sv_hput 1 hJ rfl (ev_op o2_add (Ev.x (ev_hget (cells := cells) 1 hJ rfl)) (Ev.x ev_int)) wkU) (fun _ => (sv_ifRr (γ := Unit) (et_test (ev_op o2_lt (Ev.x (ev_var (i := 2) (d := v_cell_here_11) rfl)) (Ev.x (ev_op o2_pow (Ev.x ev_int) (Ev.x ev_int))))) wkU (sv_ret (ev_op o2_mod (Ev.x (ev_b1 o1_int (Ev.x (ev_call (dds := []) (ea_cons (ev_op o2_mod (Ev.x (ev_b1 o1_int (Ev.x (ev_var (i := 2) (d := v_cell_here_11) rfl)))) (Ev.x ev_int)) (ea_cons (ev_hget (cells := cells) 1 hJ rfl) ea_nil)))))) (Ev.x (ev_var (i := 1) (d := a_many) rfl))) wkU) (sv_skip (sv_seq (e := fun (_ : Unit) => ([.A p (hF c cells), .P a_many, .P v_cell_here_11, .U] : Dm.Env)) (sv_hput 2 hJ rfl (ev_var (i := 2) (d := v_cell_here_11) rfl) wkU) (fun _ => (sv_to (g := fun _ => Fr.nx ()) sv_next (fun _ => (Wk.keep (Wk.keep (Wk.drop (Wk.keep Wk.nil)))))))))))))) (sv_to (g := fun _ => Fr.nx ()) sv_next (fun _ => (Wk.keep (Wk.keep (Wk.keep (Wk.keep Wk.nil))))))) (fun s10 => (sv_ifR (et_test (ev_op o2_gt (Ev.x (ev_hget (cells := cells) 2 hJ rfl)) (Ev.x ev_int))) wkU (sv_seq (e := fun (v_rest_39 : D) => ([.A p (hF c cells), .P a_many, .U, .P v_rest_39] : Dm.Env)) (sv_asg (ev_hget (cells := cells) 2 hJ rfl) wkU) (fun v_rest_39 => (sv_seq (e := fun (_ : Unit) => ([.A p (hF c cells), .P a_many, .U, .P v_rest_39] : Dm.Env)) (sv_hput 2 hJ rfl (ev_op o2_div (Ev.x (ev_b1 o1_int (Ev.x (ev_var (i := 3) (d := v_rest_39) rfl)))) (Ev.x (ev_var (i := 1) (d := a_many) rfl))) wkU) (fun _ => (sv_ret (ev_op o2_mod (Ev.x (ev_b1 o1_int (Ev.x (ev_var (i := 3) (d := v_rest_39) rfl)))) (Ev.x (ev_var (i := 1) (d := a_many) rfl))) wkU))))) (sv_skip (sv_seq (e := fun (_ : Unit) => ([.A p (hF c cells), .P a_many, .U, .U] : Dm.Env)) (sv_hput 3 hJ rfl (ev_op o2_mod (Ev.x (ev_b1 o1_int (Ev.x (ev_op o2_add (Ev.x (ev_hget (cells := cells) 3 hJ rfl)) (Ev.x ev_int))))) (Ev.x ev_int)) wkU) (fun _ => (sv_ret (ev_op o2_mod (Ev.x (ev_b1 o1_int (Ev.x (ev_call (dds := []) (ea_cons (ev_hget (cells := cells) 3 hJ rfl) (ea_cons (ev_hget (cells := cells) 1 hJ rfl) ea_nil)))))) (Ev.x (ev_var (i := 1) (d := a_many) rfl))) wkU))))))) ⟨cells_hand (n := 2) hf r rfl, by simpa using wd⟩ (fun _ _ _ _ h => h) e
theorem sc__law_colour : FnScope ["_law_hand_here", "_law_kind"] ["_law_hand_here"] (defScope s__law_colour) := ⟨rfl, rfl, rfl, by decide +kernel, rfl, by decide +kernel, by decide +kernel⟩
theorem ok__law_colour (T : Tx K mg A) : FnG P w K mg base (L2.CX P w) 3 A.a__law_colour A.d__law_colour ["_law_hand_here"] (spD (Zo K A) m__law_colour) :=
  fnD_okG T.F__law_colour sc__law_colour (fun vs H Q E h => spD_len (fun cs ds h => match ds, h with  | [], h => absurd rfl h | _ :: _, _ => rfl) h) fun cdv A' outer s H vs Q E hg hr h => by
    obtain ⟨p, c, cells, L0, G, s0, vs', ds, rfl, hf, wd, r, e⟩ := h
    have hJ : HandJ (⟨Zo K A, fun h => (p, hHO c h) :: L0, fun cls d _ H => E cls d H⟩ : Jc Hd) p c := ⟨[], L0, fun _ => rfl⟩
    match ds, r, e with
    | _ :: _, _, e => exact e.elim
    | [], r, e =>
    refine ⟨_, (pss_cons (ps_set (i := 1) sc__law_colour.nd rfl (by first | exact Or.inl rfl | exact Or.inr rfl) (by exact (pe_callG (by exact hg) (ok__law_take T) (hr.mono (by first | decide | exact Nat.le_refl _ | omega | (simp only [Nat.add_eq]; omega))) rfl T.g__law_take T.F__law_take.kp T.b__law_take .nil (fun σ => passAt (takes_of rfl rfl rfl rfl) σ) (by exact (pa_cons (pv 0) (pa_cons pe_int pa_nil)))))) (pss_one (ps_ret (by exact (pe_ifExp (pt_cmpR (op_eqK (K := K) rfl hr.units) (pv 1) pe_int (nomark _)) (pe_callG (by exact hg) (ok__law_take T) (hr.mono (by first | decide | exact Nat.le_refl _ | omega | (simp only [Nat.add_eq]; omega))) rfl T.g__law_take T.F__law_take.kp T.b__law_take .nil (fun σ => passAt (takes_of rfl rfl rfl rfl) σ) (by exact (pa_cons (pv 0) (pa_cons pe_int pa_nil)))) (pe_ifExp (pt_cmpR op_lt (pv 1) pe_int (nomark _)) (pe_callG (by exact hg) (ok__law_take T) (hr.mono (by first | decide | exact Nat.le_refl _ | omega | (simp only [Nat.add_eq]; omega))) rfl T.g__law_take T.F__law_take.kp T.b__law_take .nil (fun σ => passAt (takes_of rfl rfl rfl rfl) σ) (by exact (pa_cons (pv 0) (pa_cons pe_int pa_nil)))) (pe_callG (by exact hg) (ok__law_take T) (hr.mono (by first | decide | exact Nat.le_refl _ | omega | (simp only [Nat.add_eq]; omega))) rfl T.g__law_take T.F__law_take.kp T.b__law_take .nil (fun σ => passAt (takes_of rfl rfl rfl rfl) σ) (by exact (pa_cons (pv 0) (pa_cons pe_int pa_nil)))))))))), ?_⟩
    exact bodyD_ok (ρ := [.A p (hF c cells), .U]) (J := ⟨Zo K A, fun h => (p, hHO c h) :: L0, fun cls d _ H => E cls d H⟩) (esc := List.replicate 2 .U) (sv_seq (e := fun (v_kind_1 : D) => ([.A p (hF c cells), .P v_kind_1] : Dm.Env)) (sv_asg (ev_callD (dds := []) hJ rfl (ea_cons ev_int ea_nil)) wkU) (fun v_kind_1 => (sv_ret (ev_ifE (et_test (ev_op o2_eq (Ev.x (ev_var (i := 1) (d := v_kind_1) rfl)) (Ev.x ev_int))) (ev_callD (dds := []) hJ rfl (ea_cons ev_int ea_nil)) (ev_ifE (et_test (ev_op o2_lt (Ev.x (ev_var (i := 1) (d := v_kind_1) rfl)) (Ev.x ev_int))) (ev_callD (dds := []) hJ rfl (ea_cons ev_int ea_nil)) (ev_callD (dds := []) hJ rfl (ea_cons ev_int ea_nil)))) wkU))) ⟨cells_hand (n := 1) hf r rfl, by simpa using wd⟩ (fun _ _ _ _ h => h) e
theorem sc__law_ties : FnScope ["_law_hand_here", "_law_many", "_law_kind", "_law_ties_here", "_law_cell_here", "_law_turn", "_law_one", "_law_other"] ["_law_hand_here", "_law_many"] (defScope s__law_ties) := ⟨rfl, rfl, rfl, by decide +kernel, rfl, by decide +kernel, by decide +kernel⟩
theorem ok__law_ties (T : Tx K mg A) : FnG P w K mg base (L2.CX P w) 3 A.a__law_ties A.d__law_ties ["_law_hand_here", "_law_many"] (spD (Zo K A) m__law_ties) :=
  fnD_okG T.F__law_ties sc__law_ties (fun vs H Q E h => spD_len (fun cs ds h => match ds, h with | [], _ => rfl | [_], h => absurd rfl h | _ :: _ :: _, _ => rfl) h) fun cdv A' outer s H vs Q E hg hr h => by
    obtain ⟨p, c, cells, L0, G, s0, vs', ds, rfl, hf, wd, r, e⟩ := h
    have hJ : HandJ (⟨Zo K A, fun h => (p, hHO c h) :: L0, fun cls d _ H => E cls d H⟩ : Jc Hd) p c := ⟨[], L0, fun _ => rfl⟩
    match ds, r, e with
    | [], _, e => exact e.elim
    | _ :: _ :: _, _, e => exact e.elim
    | [a_many], r, e =>
    refine ⟨_, (pss_cons (ps_set (i := 2) sc__law_ties.nd rfl (by first | exact Or.inl rfl | exact Or.inr rfl) (by exact (pe_callG (by exact hg) (ok__law_take T) (hr.mono (by first | decide | exact Nat.le_refl _ | omega | (simp only [Nat.add_eq]; omega))) rfl T.g__law_take T.F__law_take.kp T.b__law_take .nil (fun σ => passAt (takes_of rfl rfl rfl rfl) σ) (by exact (pa_cons (pv 0) (pa_cons pe_int pa_nil)))))) (pss_cons (ps_set (i := 3) sc__law_ties.nd rfl (by first | exact Or.inl rfl | exact Or.inr rfl) (by exact (pe_lst pa_nil))) (pss_cons (ps_for PassesOwn.leaving rfl (pi_range2 rfl T.n_range (pa_cons pe_int (pa_cons (pv 1) pa_nil))) (pg_name (i := 4) sc__law_ties.nd rfl (by first | exact Or.inl rfl | exact Or.inr rfl)) (pss_one (ps_if (pt_cmpR op_lt (pv 2) pe_int (nomark _)) (pss_cons (ps_expr (pe_bm PySem.F.plainAttrs_list PySem.F.slot_list_append PySem.F.type_list_append mt_append (pv 3) (pa_cons (pe_tup (pa_cons (pe_op op_sub (pv 4) pe_int) (pa_cons (pv 4) pa_nil))) pa_nil))) pss_nil) (pss_one (ps_if (pt_cmpR (op_eqK (K := K) rfl hr.units) (pv 2) pe_int (nomark _)) (pss_cons (ps_expr (pe_bm PySem.F.plainAttrs_list PySem.F.slot_list_append PySem.F.type_list_append mt_append (pv 3) (pa_cons (pe_tup (pa_cons (pe_callB (call_max2 rfl) rfl T.n_max rfl (pa_cons (pe_op op_sub (pv 4) pe_int) (pa_cons pe_int pa_nil))) (pa_cons (pv 4) pa_nil))) pa_nil))) pss_nil) (pss_cons (ps_expr (pe_bm PySem.F.plainAttrs_list PySem.F.slot_list_append PySem.F.type_list_append mt_append (pv 3) (pa_cons (pe_tup (pa_cons (pe_callG (by exact hg) (ok__law_take T) (hr.mono (by first | decide | exact Nat.le_refl _ | omega | (simp only [Nat.add_eq]; omega))) rfl T.g__law_take T.F__law_take.kp T.b__law_take .nil (fun σ => passAt (takes_of rfl rfl rfl rfl) σ) (by exact (pa_cons (pv 0) (pa_cons (pv 4) pa_nil)))) (pa_cons (pv 4) pa_nil))) pa_nil))) pss_nil)))))) (pss_cons (ps_if (PW.pt (pw_and (pt_cmpR (op_eqK (K := K) rfl hr.units) (pv 2) pe_int (nomark _)) (pw_and1 (pt_cmpR op_gt (pv 1) pe_int (nomark _))))) (pss_cons (ps_expr (pe_bm PySem.F.plainAttrs_list PySem.F.slot_list_append PySem.F.type_list_append mt_append (pv 3) (pa_cons (pe_tup (pa_cons (pe_op op_sub (pv 1) pe_int) (pa_cons pe_int pa_nil))) pa_nil))) pss_nil) pss_nil) (pss_cons (ps_if (pt_cmpR op_gt (pv 2) pe_int (nomark _)) (pss_cons (ps_for PassesOwn.leaving rfl (pi_range1 rfl T.n_range (pa_cons (pe_callG (by exact hg) (ok__law_take T) (hr.mono (by first | decide | exact Nat.le_refl _ | omega | (simp only [Nat.add_eq]; omega))) rfl T.g__law_take T.F__law_take.kp T.b__law_take .nil (fun σ => passAt (takes_of rfl rfl rfl rfl) σ) (by exact (pa_cons (pv 0) (pa_cons pe_int pa_nil)))) pa_nil)) (pg_name (i := 5) sc__law_ties.nd rfl (by first | exact Or.inl rfl | exact Or.inr rfl)) (pss_cons (ps_set (i := 6) sc__law_ties.nd rfl (by first | exact Or.inl rfl | exact Or.inr rfl) (by exact (pe_callG (by exact hg) (ok__law_take T) (hr.mono (by first | decide | exact Nat.le_refl _ | omega | (simp only [Nat.add_eq]; omega))) rfl T.g__law_take T.F__law_take.kp T.b__law_take .nil (fun σ => passAt (takes_of rfl rfl rfl rfl) σ) (by exact (pa_cons (pv 0) (pa_cons (pv 1) pa_nil)))))) (pss_cons (ps_set (i := 7) sc__law_ties.nd rfl (by first | exact Or.inl rfl | exact Or.inr rfl) (by exact (pe_callG (by exact hg) (ok__law_take T) (hr.mono (by first | decide | exact Nat.le_refl _ | omega | (simp only [Nat.add_eq]; omega))) rfl T.g__law_take T.F__law_take.kp T.b__law_take .nil (fun σ => passAt (takes_of rfl rfl rfl rfl) σ) (by exact (pa_cons (pv 0) (pa_cons (pv 1) pa_nil)))))) (pss_one (ps_if (pt_cmpR (op_neK (K := K) rfl hr.units) (pv 6) (pv 7) (nomark _)) (pss_cons (ps_expr (pe_bm PySem.F.plainAttrs_list PySem.F.slot_list_append PySem.F.type_list_append mt_append (pv 3) (pa_cons (pe_tup (pa_cons (pv 6) (pa_cons (pv 7) pa_nil))) pa_nil))) pss_nil) pss_nil))))) pss_nil) pss_nil) (pss_cons (ps_if (pt_cmpR (op_eqK (K := K) rfl hr.units) (pe_callG (by exact hg) (ok__law_take T) (hr.mono (by first | decide | exact Nat.le_refl _ | omega | (simp only [Nat.add_eq]; omega))) rfl T.g__law_take T.F__law_take.kp T.b__law_take .nil (fun σ => passAt (takes_of rfl rfl rfl rfl) σ) (by exact (pa_cons (pv 0) (pa_cons pe_int pa_nil)))) pe_int (nomark _)) (pss_cons (ps_set (i := 3) sc__law_ties.nd rfl (by first | exact Or.inl rfl | exact Or.inr rfl) (by exact (pe_slice (sl_anyK (K := K) rfl) (pv 3) (po_some pe_int) po_none))) pss_nil) pss_nil) (pss_one (ps_ret (by exact (pv 3)))))))))), ?_⟩
    exact bodyD_ok (ρ := [.A p (hF c cells), .P a_many, .U, .U, .U, .U, .U, .U]) (J := ⟨Zo K A, fun h => (p, hHO c h) :: L0, fun cls d _ H => E cls d H⟩) (esc := List.replicate 8 .U) (sv_seq (e := fun (v_kind_1 : D) => ([.A p (hF c cells), .P a_many, .P v_kind_1, .U, .U, .U, .U, .U] : Dm.Env)) (sv_asg (ev_callD (dds := []) hJ rfl (ea_cons ev_int ea_nil)) wkU) (fun v_kind_1 => (sv_seq (e := fun (v_ties_here_5 : List D) => ([.A p (hF c cells), .P a_many, .P v_kind_1, .O v_ties_here_5, .U, .U, .U, .U] : Dm.Env)) (sv_asgL (el_lst ea_nil) wkU (hi := Nat.le_of_ble_eq_true rfl)) (fun v_ties_here_5 => (sv_seq (e := fun (s12 : List D) => ([.A p (hF c cells), .P a_many, .P v_kind_1, .O s12, .U, .U, .U, .U] : Dm.Env)) (sv_wk (Wk.keep (Wk.keep (Wk.keep (Wk.keep (Wk.keep (Wk.keep (Wk.keep (Wk.keep Wk.nil)))))))) (sv_forN (e := fun (s12 : List D) => ([.A p (hF c cells), .P a_many, .P v_kind_1, .O s12, .U, .U, .U, .U] : Dm.Env)) v_ties_here_5 (ei_r2 (ea_cons ev_int (ea_cons (ev_var (i := 1) (d := a_many) rfl) ea_nil))) wkU (tg_name 4) (fun t13 s12 => (sv_if (et_test (ev_op o2_lt (Ev.x (ev_var (i := 2) (d := v_kind_1) rfl)) (Ev.x ev_int))) wkU (sv_seq (e := fun (es18 : List D) => ([.A p (hF c cells), .P a_many, .P v_kind_1, .O es18, .P t13, .U, .U, .U] : Dm.Env)) (sv_app (i := 3) rfl (ev_tup (ea_cons (ev_op o2_sub (Ev.x (ev_var (i := 4) (d := t13) rfl)) (Ev.x ev_int)) (ea_cons (ev_var (i := 4) (d := t13) rfl) ea_nil))) wkU) (fun es18 => (sv_to (g := fun _ => es18) sv_next (fun _ => (Wk.keep (Wk.keep (Wk.keep (Wk.keep (Wk.drop (Wk.keep (Wk.keep (Wk.keep Wk.nil)))))))))))) (sv_if (et_test (ev_op o2_eq (Ev.x (ev_var (i := 2) (d := v_kind_1) rfl)) (Ev.x ev_int))) wkU (sv_seq (e := fun (es32 : List D) => ([.A p (hF c cells), .P a_many, .P v_kind_1, .O es32, .P t13, .U, .U, .U] : Dm.Env)) (sv_app (i := 3) rfl (ev_tup (ea_cons (ev_b2 o2_max (Ev.x (ev_op o2_sub (Ev.x (ev_var (i := 4) (d := t13) rfl)) (Ev.x ev_int))) (Ev.x ev_int)) (ea_cons (ev_var (i := 4) (d := t13) rfl) ea_nil))) wkU) (fun es32 => (sv_to (g := fun _ => es32) sv_next (fun _ => (Wk.keep (Wk.keep (Wk.keep (Wk.keep (Wk.drop (Wk.keep (Wk.keep (Wk.keep Wk.nil)))))))))))) (sv_seq (e := fun (es44 : List D) => ([.A p (hF c cells), .P a_many, .P v_kind_1, .O es44, .P t13, .U, .U, .U] : Dm.Env)) (sv_app (i := 3) rfl (ev_tup (ea_cons (ev_callD (dds := []) hJ rfl (ea_cons (ev_var (i := 4) (d := t13) rfl) ea_nil)) (ea_cons (ev_var (i := 4) (d := t13) rfl) ea_nil))) wkU) (fun es44 => (sv_to (g := fun _ => es44) sv_next (fun _ => (Wk.keep (Wk.keep (Wk.keep (Wk.keep (Wk.drop (Wk.keep (Wk.keep (Wk.keep Wk.nil))))))))))))))))) (fun s12 => (sv_seq (e := fun (s63 : List D) => ([.A p (hF c cells), .P a_many, .P v_kind_1, .O s63, .U, .U, .U, .U] : Dm.Env)) (sv_if (et_and (et_test (ev_op o2_eq (Ev.x (ev_var (i := 2) (d := v_kind_1) rfl)) (Ev.x ev_int))) (et_test (ev_op o2_gt (Ev.x (ev_var (i := 1) (d := a_many) rfl)) (Ev.x ev_int)))) wkU (sv_seq (e := fun (es64 : List D) => ([.A p (hF c cells), .P a_many, .P v_kind_1, .O es64, .U, .U, .U, .U] : Dm.Env)) (sv_app (i := 3) rfl (ev_tup (ea_cons (ev_op o2_sub (Ev.x (ev_var (i := 1) (d := a_many) rfl)) (Ev.x ev_int)) (ea_cons ev_int ea_nil))) wkU) (fun es64 => (sv_to (g := fun _ => es64) sv_next (fun _ => (Wk.keep (Wk.keep (Wk.keep (Wk.keep (Wk.keep (Wk.keep (Wk.keep (Wk.keep Wk.nil)))))))))))) (sv_to (g := fun _ => s12) sv_next (fun _ => (Wk.keep (Wk.keep (Wk.keep (Wk.keep (Wk.keep (Wk.keep (Wk.keep (Wk.keep Wk.nil))))))))))) (fun s63 => (sv_seq (e := fun (s78 : List D) => ([.A p (hF c cells), .P a_many, .P v_kind_1, .O s78, .U, .U, .U, .U] : Dm.Env)) (sv_if (et_test (ev_op o2_gt (Ev.x (ev_var (i := 2) (d := v_kind_1) rfl)) (Ev.x ev_int))) wkU (sv_seq (e := fun (s85 : List D) => ([.A p (hF c cells), .P a_many, .P v_kind_1, .O s85, .U, .U, .U, .U] : Dm.Env)) (sv_wk (Wk.keep (Wk.keep (Wk.keep (Wk.keep (Wk.keep (Wk.keep (Wk.keep (Wk.keep Wk.nil)))))))) (sv_forN (e := fun (s85 : List D) => ([.A p (hF c cells), .P a_many, .P v_kind_1, .O s85, .U, .U, .U, .U] : Dm.Env)) s63 (ei_r1 (ea_cons (ev_callD (dds := []) hJ rfl (ea_cons ev_int ea_nil)) ea_nil)) wkU (tg_name 5) (fun t86 s85 => (sv_seq (e := fun (v_one_87 : D) => ([.A p (hF c cells), .P a_many, .P v_kind_1, .O s85, .U, .P t86, .P v_one_87, .U] : Dm.Env)) (sv_asg (ev_callD (dds := []) hJ rfl (ea_cons (ev_var (i := 1) (d := a_many) rfl) ea_nil)) wkU) (fun v_one_87 => (sv_seq (e := fun (v_other_91 : D) => ([.A p (hF c cells), .P a_many, .P v_kind_1, .O s85, .U, .P t86, .P v_one_87, .P v_other_91] : Dm.Env)) (sv_asg (ev_callD (dds := []) hJ rfl (ea_cons (ev_var (i := 1) (d := a_many) rfl) ea_nil)) wkU) (fun v_other_91 => (sv_if (et_test (ev_op o2_ne (Ev.x (ev_var (i := 6) (d := v_one_87) rfl)) (Ev.x (ev_var (i := 7) (d := v_other_91) rfl)))) wkU (sv_seq (e := fun (es99 : List D) => ([.A p (hF c cells), .P a_many, .P v_kind_1, .O es99, .U, .P t86, .P v_one_87, .P v_other_91] : Dm.Env)) (sv_app (i := 3) rfl (ev_tup (ea_cons (ev_var (i := 6) (d := v_one_87) rfl) (ea_cons (ev_var (i := 7) (d := v_other_91) rfl) ea_nil))) wkU) (fun es99 => (sv_to (g := fun _ => es99) sv_next (fun _ => (Wk.keep (Wk.keep (Wk.keep (Wk.keep (Wk.keep (Wk.drop (Wk.drop (Wk.drop Wk.nil)))))))))))) (sv_to (g := fun _ => s85) sv_next (fun _ => (Wk.keep (Wk.keep (Wk.keep (Wk.keep (Wk.keep (Wk.drop (Wk.drop (Wk.drop Wk.nil)))))))))))))))))) (fun s85 => (sv_to (g := fun _ => s85) sv_next (fun _ => (Wk.keep (Wk.keep (Wk.keep (Wk.keep (Wk.keep (Wk.keep (Wk.keep (Wk.keep Wk.nil)))))))))))) (sv_to (g := fun _ => s63) sv_next (fun _ => (Wk.keep (Wk.keep (Wk.keep (Wk.keep (Wk.keep (Wk.keep (Wk.keep (Wk.keep Wk.nil))))))))))) (fun s78 => (sv_seq (e := fun (s121 : List D) => ([.A p (hF c cells), .P a_many, .P v_kind_1, .O s121, .U, .U, .U, .U] : Dm.Env)) (sv_if (et_test (ev_op o2_eq (Ev.x (ev_callD (dds := []) hJ rfl (ea_cons ev_int ea_nil))) (Ev.x ev_int))) wkU (sv_seq (e := fun (v_ties_here_122 : List D) => ([.A p (hF c cells), .P a_many, .P v_kind_1, .O v_ties_here_122, .U, .U, .U, .U] : Dm.Env)) (sv_asgL (el_sl (ex_own (i := 3) (ds := s78) rfl) (eo_some ev_int) eo_none) wkU (hi := Nat.le_of_ble_eq_true rfl)) (fun v_ties_here_122 => (sv_to (g := fun _ => v_ties_here_122) sv_next (fun _ => (Wk.keep (Wk.keep (Wk.keep (Wk.keep (Wk.keep (Wk.keep (Wk.keep (Wk.keep Wk.nil)))))))))))) (sv_to (g := fun _ => s78) sv_next (fun _ => (Wk.keep (Wk.keep (Wk.keep (Wk.keep (Wk.keep (Wk.keep (Wk.keep (Wk.keep Wk.nil))))))))))) (fun s121 => (sv_frz (i := 3) (ds := s121) rfl <| (sv_ret (ev_var (i := 3) (d := (.lst s121)) rfl) wkU)))))))))))))) ⟨cells_hand (n := 6) hf r rfl, by simpa using wd⟩ (fun _ _ _ _ h => h) e
theorem sc__law_marks : FnScope ["_law_hand_here", "_law_many", "_law_wanted", "_law_marks_here", "_law_turn", "_law_start", "_law_step", "_law_cell_here"] ["_law_hand_here", "_law_many", "_law_wanted"] (defScope s__law_marks) := ⟨rfl, rfl, rfl, by decide +kernel, rfl, by decide +kernel, by decide +kernel⟩
theorem ok__law_marks (T : Tx K mg A) : FnG P w K mg base (L2.CX P w) 3 A.a__law_marks A.d__law_marks ["_law_hand_here", "_law_many", "_law_wanted"] (spD (Zo K A) m__law_marks) :=
  fnD_okG T.F__law_marks sc__law_marks (fun vs H Q E h => spD_len (fun cs ds h => match ds, h with | [], _ => rfl | [_], _ => rfl | [_, _], h => absurd rfl h | _ :: _ :: _ :: _, _ => rfl) h) fun cdv A' outer s H vs Q E hg hr h => by
    obtain ⟨p, c, cells, L0, G, s0, vs', ds, rfl, hf, wd, r, e⟩ := h
    have hJ : HandJ (⟨Zo K A, fun h => (p, hHO c h) :: L0, fun cls d _ H => E cls d H⟩ : Jc Hd) p c := ⟨[], L0, fun _ => rfl⟩
    match ds, r, e with
    | [], _, e => exact e.elim
    | [_], _, e => exact e.elim
    | _ :: _ :: _ :: _, _, e => exact e.elim
    | [a_many, a_wanted], r, e =>
    refine ⟨_, (pss_cons (ps_set (i := 3) sc__law_marks.nd rfl (by first | exact Or.inl rfl | exact Or.inr rfl) (by exact (pe_lst pa_nil))) (pss_cons (ps_for PassesOwn.leaving rfl (pi_range1 rfl T.n_range (pa_cons (pe_callB (call_min2 rfl) rfl T.n_min rfl (pa_cons (pv 2) (pa_cons (pv 1) pa_nil))) pa_nil)) (pg_name (i := 4) sc__law_marks.nd rfl (by first | exact Or.inl rfl | exact Or.inr rfl)) (pss_cons (ps_set (i := 5) sc__law_marks.nd rfl (by first | exact Or.inl rfl | exact Or.inr rfl) (by exact (pe_callG (by exact hg) (ok__law_take T) (hr.mono (by first | decide | exact Nat.le_refl _ | omega | (simp only [Nat.add_eq]; omega))) rfl T.g__law_take T.F__law_take.kp T.b__law_take .nil (fun σ => passAt (takes_of rfl rfl rfl rfl) σ) (by exact (pa_cons (pv 0) (pa_cons (pv 1) pa_nil)))))) (pss_cons (ps_for PassesOwn.leaving rfl (pi_range1 rfl T.n_range (pa_cons (pv 1) pa_nil)) (pg_name (i := 6) sc__law_marks.nd rfl (by first | exact Or.inl rfl | exact Or.inr rfl)) (pss_cons (ps_set (i := 7) sc__law_marks.nd rfl (by first | exact Or.inl rfl | exact Or.inr rfl) (by exact (pe_op op_modN (pe_callTy call_int1 rfl T.n_int rfl (pa_cons (pe_op (op_addK (K := K) rfl) (pv 5) (pv 6)) pa_nil)) (pv 1)))) (pss_one (ps_if (pt_cmpR (op_ninK (K := K) rfl) (pv 7) (pv 3) (by with_unfolding_all rfl)) (pss_cons (ps_expr (pe_bm PySem.F.plainAttrs_list PySem.F.slot_list_append PySem.F.type_list_append mt_append (pv 3) (pa_cons (pv 7) pa_nil))) (pss_one ps_break)) pss_nil)))) pss_nil))) (pss_one (ps_ret (by exact (pv 3)))))), ?_⟩
    exact bodyD_ok (ρ := [.A p (hF c cells), .P a_many, .P a_wanted, .U, .U, .U, .U, .U]) (J := ⟨Zo K A, fun h => (p, hHO c h) :: L0, fun cls d _ H => E cls d H⟩) (esc := List.replicate 8 .U) (sv_seq (e := fun (v_marks_here_1 : List D) => ([.A p (hF c cells), .P a_many, .P a_wanted, .O v_marks_here_1, .U, .U, .U, .U] : Dm.Env)) (sv_asgL (el_lst ea_nil) wkU (hi := Nat.le_of_ble_eq_true rfl)) (fun v_marks_here_1 => (sv_seq (e := fun (s8 : List D) => ([.A p (hF c cells), .P a_many, .P a_wanted, .O s8, .U, .U, .U, .U] : Dm.Env)) (sv_wk (Wk.keep (Wk.keep (Wk.keep (Wk.keep (Wk.keep (Wk.keep (Wk.keep (Wk.keep Wk.nil)))))))) (sv_forN (e := fun (s8 : List D) => ([.A p (hF c cells), .P a_many, .P a_wanted, .O s8, .U, .U, .U, .U] : Dm.Env)) v_marks_here_1 (ei_r1 (ea_cons (ev_b2 o2_min (Ev.x (ev_var (i := 2) (d := a_wanted) rfl)) (Ev.x (ev_var (i := 1) (d := a_many) rfl))) ea_nil)) wkU (tg_name 4) (fun t9 s8 => (sv_seq (e := fun (v_start_10 : D) => ([.A p (hF c cells), .P a_many, .P a_wanted, .O s8, .P t9, .P v_start_10, .U, .U] : Dm.Env)) (sv_asg (ev_callD (dds := []) hJ rfl (ea_cons (ev_var (i := 1) (d := a_many) rfl) ea_nil)) wkU) (fun v_start_10 => (sv_frN (e := fun (s17 : List D) => ([.A p (hF c cells), .P a_many, .P a_wanted, .O s17, .P t9, .P v_start_10, .U, .U] : Dm.Env)) (sv_wk (Wk.keep (Wk.keep (Wk.keep (Wk.keep (Wk.keep (Wk.keep (Wk.keep (Wk.keep Wk.nil)))))))) (sv_forF (e := fun (s17 : List D) => ([.A p (hF c cells), .P a_many, .P a_wanted, .O s17, .P t9, .P v_start_10, .U, .U] : Dm.Env)) s8 (ei_r1 (ea_cons (ev_var (i := 1) (d := a_many) rfl) ea_nil)) wkU (tg_name 6) (fun t18 s17 => (sv_seq (e := fun (v_cell_here_19 : D) => ([.A p (hF c cells), .P a_many, .P a_wanted, .O s17, .P t9, .P v_start_10, .P t18, .P v_cell_here_19] : Dm.Env)) (sv_asg (ev_op o2_mod (Ev.x (ev_b1 o1_int (Ev.x (ev_op o2_add (Ev.x (ev_var (i := 5) (d := v_start_10) rfl)) (Ev.x (ev_var (i := 6) (d := t18) rfl)))))) (Ev.x (ev_var (i := 1) (d := a_many) rfl))) wkU) (fun v_cell_here_19 => (sv_if (et_test (ev_op o2_nin (Ev.x (ev_var (i := 7) (d := v_cell_here_19) rfl)) (ex_own (i := 3) (ds := s17) rfl))) wkU (sv_seq (e := fun (es29 : List D) => ([.A p (hF c cells), .P a_many, .P a_wanted, .O es29, .P t9, .P v_start_10, .P t18, .P v_cell_here_19] : Dm.Env)) (sv_app (i := 3) rfl (ev_var (i := 7) (d := v_cell_here_19) rfl) wkU) (fun es29 => (sv_to (g := fun _ => Fl.bk es29) sv_break (fun _ => (Wk.keep (Wk.keep (Wk.keep (Wk.keep (Wk.keep (Wk.keep (Wk.drop (Wk.drop Wk.nil)))))))))))) (sv_to (g := fun _ => Fl.nx s17) sv_next (fun _ => (Wk.keep (Wk.keep (Wk.keep (Wk.keep (Wk.keep (Wk.keep (Wk.drop (Wk.drop Wk.nil)))))))))))))))) (fun s17 => (sv_to (g := fun _ => s17) sv_next (fun _ => (Wk.keep (Wk.keep (Wk.keep (Wk.keep (Wk.drop (Wk.drop (Wk.keep (Wk.keep Wk.nil))))))))))))))))) (fun s8 => (sv_frz (i := 3) (ds := s8) rfl <| (sv_ret (ev_var (i := 3) (d := (.lst s8)) rfl) wkU)))))) ⟨cells_hand (n := 5) hf r rfl, by simpa using wd⟩ (fun _ _ _ _ h => h) e
theorem sc__law_picture : FnScope ["_law_hand_here", "_law_most", "_law_wanted", "_law_many", "_law_cell_here"] ["_law_hand_here", "_law_most", "_law_wanted"] (defScope s__law_picture) := ⟨rfl, rfl, rfl, by decide +kernel, rfl, by decide +kernel, by decide +kernel⟩
theorem ok__law_picture (T : Tx K mg A) : FnG P w K mg base (L2.CX P w) 4 A.a__law_picture A.d__law_picture ["_law_hand_here", "_law_most", "_law_wanted"] (spDL (Zo K A) m__law_picture) :=
  fnD_okG T.F__law_picture sc__law_picture (fun vs H Q E h => spDL_len (fun cs ds h => match ds, h with | [], _ => rfl | [_], _ => rfl | [_, _], h => absurd rfl h | _ :: _ :: _ :: _, _ => rfl) h) fun cdv A' outer s H vs Q E hg hr h => by
    obtain ⟨p, c, cells, L0, G, s0, vs', ds, rfl, hf, wd, r, e⟩ := h
    have hJ : HandJ (⟨Zo K A, fun h => (p, hHO c h) :: L0, fun cls d _ H => E cls d H⟩ : Jc Hd) p c := ⟨[], L0, fun _ => rfl⟩
    match ds, r, e with
    | [], _, e => exact e.elim
    | [_], _, e => exact e.elim
    | _ :: _ :: _ :: _, _, e => exact e.elim
    | [a_most, a_wanted], r, e =>
    refine ⟨_, (pss_cons (ps_set (i := 3) sc__law_picture.nd rfl (by first | exact Or.inl rfl | exact Or.inr rfl) (by exact (pe_op (op_addK (K := K) rfl) pe_int (pe_callG (by exact hg) (ok__law_take T) (hr.mono (by first | decide | exact Nat.le_refl _ | omega | (simp only [Nat.add_eq]; omega))) rfl T.g__law_take T.F__law_take.kp T.b__law_take .nil (fun σ => passAt (takes_of rfl rfl rfl rfl) σ) (by exact (pa_cons (pv 0) (pa_cons (pe_op op_sub (pv 1) pe_int) pa_nil))))))) (pss_one (ps_ret (by exact (pe_lst (pa_cons (pe_lc (own := [("_law_cell_here", 4)]) rfl sc__law_picture.nd (pi_range1 rfl T.n_range (pa_cons (pv 3) pa_nil)) (blkOk_by (N := ["_law_hand_here", "_law_most", "_law_wanted", "_law_many", "_law_cell_here"]) (sc := defScope s__law_picture) (by decide +kernel)) (fun _ _ _ _ _ => by exact (pg_name (i := 4) sc__law_picture.nd rfl (Or.inl rfl))) (fun _ _ _ _ _ => by exact pts_nil) (fun _ _ _ _ _ => by exact (pe_callG (by exact hg) (ok__law_colour T) (hr.mono (by first | decide | exact Nat.le_refl _ | omega | (simp only [Nat.add_eq]; omega))) rfl T.g__law_colour T.F__law_colour.kp T.b__law_colour .nil (passN (fun _ _ _ _ q => q)) (by exact (pa_cons (pv 0) pa_nil))))) (pa_cons (pe_callG (by exact hg) (ok__law_ties T) (hr.mono (by first | decide | exact Nat.le_refl _ | omega | (simp only [Nat.add_eq]; omega))) rfl T.g__law_ties T.F__law_ties.kp T.b__law_ties .nil (fun σ => passAt (takes_of rfl rfl rfl rfl) σ) (by exact (pa_cons (pv 0) (pa_cons (pv 3) pa_nil)))) (pa_cons (pe_callG (by exact hg) (ok__law_marks T) (hr.mono (by first | decide | exact Nat.le_refl _ | omega | (simp only [Nat.add_eq]; omega))) rfl T.g__law_marks T.F__law_marks.kp T.b__law_marks .nil (fun σ => passAt (takes_of rfl rfl rfl rfl) σ) (by exact (pa_cons (pv 0) (pa_cons (pv 3) (pa_cons (pv 2) pa_nil))))) pa_nil)))))))), ?_⟩
    exact bodyL_ok (T := Ta) (ρ := [.A p (hF c cells), .P a_most, .P a_wanted, .U, .U]) (J := ⟨Zo K A, fun h => (p, hHO c h) :: L0, fun cls d _ H => E cls d H⟩) (esc := List.replicate 5 .U) (sv_seq (e := fun (v_many_1 : D) => ([.A p (hF c cells), .P a_most, .P a_wanted, .P v_many_1, .U] : Dm.Env)) (sv_asg (ev_op o2_add (Ev.x ev_int) (Ev.x (ev_callD (dds := []) hJ rfl (ea_cons (ev_op o2_sub (Ev.x (ev_var (i := 1) (d := a_most) rfl)) (Ev.x ev_int)) ea_nil)))) wkU) (fun v_many_1 => (sv_retL (el_lst (ea_cons (ev_new (el_lc (ei_r1 (ea_cons (ev_var (i := 3) (d := v_many_1) rfl) ea_nil)) (fun _ _ => (tg_name 4)) (fun t24 _ _ => et_yes) (fun t24 _ _ => (ev_callD (dds := []) (HandJ.add hJ) rfl ea_nil)) (hO := (List.forall_mem_cons.2 ⟨rfl, (List.forall_mem_nil _)⟩)))) (ea_cons (ev_callD (dds := []) hJ rfl (ea_cons (ev_var (i := 3) (d := v_many_1) rfl) ea_nil)) (ea_cons (ev_callD (dds := []) hJ rfl (ea_cons (ev_var (i := 3) (d := v_many_1) rfl) (ea_cons (ev_var (i := 2) (d := a_wanted) rfl) ea_nil))) ea_nil)))) wkU))) ⟨cells_hand (n := 2) hf r rfl, by simpa using wd⟩ (fun _ _ _ _ h => h) e
theorem sc__law_near : FnScope ["_law_many", "_law_ties_here", "_law_near_here", "_law_tie", "_law_cell_here"] ["_law_many", "_law_ties_here"] (defScope s__law_near) := ⟨rfl, rfl, rfl, by decide +kernel, rfl, by decide +kernel, by decide +kernel⟩
theorem ok__law_near (T : Tx K mg A) : FnG P w K mg base (L2.CX P w) 1 A.a__law_near A.d__law_near ["_law_many", "_law_ties_here"] (spM (Zo K A) m__law_near) :=
  fnD_okG T.F__law_near sc__law_near (fun vs H Q E h => spM_len (fun S ds h => match ds, h with | [], _ => rfl | [_], _ => rfl | [_, _], h => absurd rfl h | _ :: _ :: _ :: _, _ => rfl) h) fun cdv A' outer s H vs Q E hg hr h => by
    obtain ⟨S, lay, G, s0, ds, wd, r, e⟩ := h
    match ds, r, e with
    | [], _, e => exact e.elim
    | [_], _, e => exact e.elim
    | _ :: _ :: _ :: _, _, e => exact e.elim
    | [a_many, a_ties_here], r, e =>
    refine ⟨_, (pss_cons (ps_setLc (i := 2) (own := [("_law_cell_here", 4)]) rfl sc__law_near.nd rfl rfl (sw_true rfl rfl rfl (by decide +kernel)) (pi_range1 rfl T.n_range (pa_cons (pv 0) pa_nil)) (blkOk_by (N := ["_law_many", "_law_ties_here", "_law_near_here", "_law_tie", "_law_cell_here"]) (sc := defScope s__law_near) (by decide +kernel)) (fun _ _ _ _ _ => by exact (pg_name (i := 4) sc__law_near.nd rfl (Or.inl rfl))) (fun _ _ _ _ _ => by exact pts_nil) (fun _ _ _ _ _ => by exact (pe_lst pa_nil))) (pss_cons (ps_for PassesOwn.leaving rfl (pi_sqK (K := K) rfl (pv 1)) (pg_name (i := 3) sc__law_near.nd rfl (by first | exact Or.inl rfl | exact Or.inr rfl)) (pss_cons (ps_expr (pe_bm PySem.F.plainAttrs_list PySem.F.slot_list_append PySem.F.type_list_append mt_append (pe_ix (ix_seqK (K := K) rfl) (pv 2) (pe_ix (ix_seqK (K := K) rfl) (pv 3) pe_int (fun _ _ => rfl)) (fun _ _ => rfl)) (pa_cons (pe_ix (ix_seqK (K := K) rfl) (pv 3) pe_int (fun _ _ => rfl)) pa_nil))) (pss_cons (ps_expr (pe_bm PySem.F.plainAttrs_list PySem.F.slot_list_append PySem.F.type_list_append mt_append (pe_ix (ix_seqK (K := K) rfl) (pv 2) (pe_ix (ix_seqK (K := K) rfl) (pv 3) pe_int (fun _ _ => rfl)) (fun _ _ => rfl)) (pa_cons (pe_ix (ix_seqK (K := K) rfl) (pv 3) pe_int (fun _ _ => rfl)) pa_nil))) pss_nil))) (pss_one (ps_ret (by exact (pv 2)))))), ?_⟩
    exact body_ok (ρ := [.P a_many, .P a_ties_here, .U, .U, .U]) (J := ⟨Zo K A, lay, fun cls d _ H => E cls d H⟩) (esc := List.replicate 5 .U) (sv_seq (e := fun (v_near_here_1 : List (List D)) => ([.P a_many, .P a_ties_here, .Q v_near_here_1, .U, .U] : Dm.Env)) (sv_asgQ (eq_lc (ei_r1 (ea_cons (ev_var (i := 0) (d := a_many) rfl) ea_nil)) (fun _ => (tg_name 4)) (fun t5 _ => (el_lst ea_nil)) (hO := (List.forall_mem_cons.2 ⟨rfl, (List.forall_mem_nil _)⟩))) wkU (hi := Nat.le_of_ble_eq_true rfl)) (fun v_near_here_1 => (sv_seq (e := fun (s10 : List (List D)) => ([.P a_many, .P a_ties_here, .Q s10, .U, .U] : Dm.Env)) (sv_wk (Wk.keep (Wk.keep (Wk.keep (Wk.keep (Wk.keep Wk.nil))))) (sv_forN (e := fun (s10 : List (List D)) => ([.P a_many, .P a_ties_here, .Q s10, .U, .U] : Dm.Env)) v_near_here_1 (ei_sq (ev_var (i := 1) (d := a_ties_here) rfl)) wkU (tg_name 3) (fun t11 s10 => (sv_seq (e := fun (qs19 : List (List D)) => ([.P a_many, .P a_ties_here, .Q qs19, .P t11, .U] : Dm.Env)) (sv_appQ (i := 2) rfl (ev_op o2_ix (Ev.x (ev_var (i := 3) (d := t11) rfl)) (Ev.x ev_int)) (ev_op o2_ix (Ev.x (ev_var (i := 3) (d := t11) rfl)) (Ev.x ev_int)) wkU) (fun qs19 => (sv_seq (e := fun (qs27 : List (List D)) => ([.P a_many, .P a_ties_here, .Q qs27, .P t11, .U] : Dm.Env)) (sv_appQ (i := 2) rfl (ev_op o2_ix (Ev.x (ev_var (i := 3) (d := t11) rfl)) (Ev.x ev_int)) (ev_op o2_ix (Ev.x (ev_var (i := 3) (d := t11) rfl)) (Ev.x ev_int)) wkU) (fun qs27 => (sv_to (g := fun _ => qs27) sv_next (fun _ => (Wk.keep (Wk.keep (Wk.keep (Wk.drop (Wk.keep Wk.nil)))))))))))))) (fun s10 => (sv_frzQ (i := 2) (dss := s10) rfl <| sv_frz (i := 2) (ds := (s10.map D.lst)) rfl <| (sv_ret (ev_var (i := 2) (d := (.lst (s10.map D.lst))) rfl) wkU)))))) ⟨cells_start (n := 3) r rfl, by simpa using wd⟩ (fun _ _ _ _ h => h) e
theorem sc__law_tuples : FnScope ["_law_thing", "_law_item"] ["_law_thing"] (defScope s__law_tuples) := ⟨rfl, rfl, rfl, by decide +kernel, rfl, by decide +kernel, by decide +kernel⟩
theorem ok__law_tuples (T : Tx K mg A) : ∀ k : Nat, FnG P w K mg base (L2.CX P w) (1 + k) A.a__law_tuples A.d__law_tuples ["_law_thing"] (spM (Zo K A) (m__law_tuples k)) :=
  fun k => by
    induction k with
    | zero => exact fnD_okG T.F__law_tuples sc__law_tuples (fun vs H Q E h => by obtain ⟨S, lay, G, s0, ds, wd, r, e⟩ := h; exact e.elim) fun cdv A' outer s H vs Q E hg hr h => by obtain ⟨S, lay, G, s0, ds, wd, r, e⟩ := h; exact e.elim
    | succ k ih =>
    refine fnD_okG T.F__law_tuples sc__law_tuples (fun vs H Q E h => spM_len (fun S ds h => match ds, h with | [], _ => rfl | [_], h => absurd rfl h | _ :: _ :: _, _ => rfl) h) fun cdv A' outer s H vs Q E hg hr h => ?_
    obtain ⟨S, lay, G, s0, ds, wd, r, e⟩ := h
    match ds, r, e with
    | [], _, e => exact e.elim
    | _ :: _ :: _, _, e => exact e.elim
    | [a_thing], r, e =>
    refine ⟨_, (pss_cons (ps_if (pt_truK (K := K) rfl (pe_callB (call_isiK (K := K) rfl) rfl T.n_isinstance rfl (pa_cons (pv 0) (pa_cons (pe_bltn (v := .ty "tuple") rfl T.n_tuple rfl rfl) pa_nil))) (fun _ => rfl)) (pss_one (ps_ret (by exact (pe_notTK (K := K) rfl (pe_lc (own := [("_law_item", 1)]) rfl sc__law_tuples.nd (pi_sqK (K := K) rfl (pv 0)) (blkOk_by (N := ["_law_thing", "_law_item"]) (sc := defScope s__law_tuples) (by decide +kernel)) (fun _ _ _ _ _ => by exact (pg_name (i := 1) sc__law_tuples.nd rfl (Or.inl rfl))) (fun _ _ _ _ _ => by exact (pts_one (pt_not (pt_truK (K := K) rfl (pe_callG (by exact hg) ih (hr.mono (by first | decide | exact Nat.le_refl _ | omega | (simp only [Nat.add_eq]; omega))) rfl T.g__law_tuples T.F__law_tuples.kp T.b__law_tuples .nil (passN (fun _ _ _ _ q => q)) (by exact (pa_cons (pv 1) pa_nil))) (fun _ => rfl))))) (fun _ _ _ _ _ => by exact pe_int)))))) pss_nil) (pss_one (ps_ret (by exact (pe_or (pe_cmpR op_isN (pv 0) pe_non (nomark _)) (pe_one (pe_and (pe_callB (call_isiK (K := K) rfl) rfl T.n_isinstance rfl (pa_cons (pv 0) (pa_cons (pe_bltn (v := .ty "int") rfl T.n_int rfl rfl) pa_nil))) (pe_one (pe_not (pe_callB (call_isiK (K := K) rfl) rfl T.n_isinstance rfl (pa_cons (pv 0) (pa_cons (pe_bltn (v := .ty "bool") rfl T.n_bool rfl rfl) pa_nil)))))))))))), ?_⟩
    exact body_ok (ρ := [.P a_thing, .U]) (J := ⟨Zo K A, lay, fun cls d _ H => E cls d H⟩) (esc := List.replicate 2 .U) (sv_ifR (et_tru (Ev.x (ev_isa .tuple (Ev.x (ev_var (i := 0) (d := a_thing) rfl))))) wkU (sv_ret (ev_notT (Ev.x (ev_new (el_lc (ei_sq (ev_var (i := 0) (d := a_thing) rfl)) (fun _ _ => (tg_name 1)) (fun t5 _ _ => (et_not (et_tru (Ev.x (ev_call (dds := []) (ea_cons (ev_var (i := 1) (d := t5) rfl) ea_nil)))))) (fun t5 _ _ => ev_int) (hO := (List.forall_mem_cons.2 ⟨rfl, (List.forall_mem_nil _)⟩)))))) wkU) (sv_skip (sv_ret (ev_orV (ev_op o2_is (Ev.x (ev_var (i := 0) (d := a_thing) rfl)) (Ev.x ev_non)) (ev_andV (ev_isa .int (Ev.x (ev_var (i := 0) (d := a_thing) rfl))) (ev_notV (ev_isa .bool (Ev.x (ev_var (i := 0) (d := a_thing) rfl)))))) wkU))) ⟨cells_start (n := 1) r rfl, by simpa using wd⟩ (fun _ _ _ _ h => h) e
theorem sc__law_made : FnScope ["_law_picture_here"] ["_law_picture_here"] (defScope s__law_made) := ⟨rfl, rfl, rfl, by decide +kernel, rfl, by decide +kernel, by decide +kernel⟩
theorem ok__law_made (T : Tx K mg A) : FnG P w K mg base (L2.CX P w) 7 A.a__law_made A.d__law_made ["_law_picture_here"] (spM (Zo K A) m__law_made) :=
  fnD_okG T.F__law_made sc__law_made (fun vs H Q E h => spM_len (fun S ds h => match ds, h with | [], _ => rfl | [_], h => absurd rfl h | _ :: _ :: _, _ => rfl) h) fun cdv A' outer s H vs Q E hg hr h => by
    obtain ⟨S, lay, G, s0, ds, wd, r, e⟩ := h
    match ds, r, e with
    | [], _, e => exact e.elim
    | _ :: _ :: _, _, e => exact e.elim
    | [a_picture_here], r, e =>
    refine ⟨_, (pss_one (ps_ret (by exact (pe_makeG (by exact hg) T.mk_Picture (ok_Picture__init__ T) (hr.mono (by first | decide | exact Nat.le_refl _ | omega | (simp only [Nat.add_eq]; omega))) rfl T.g_Picture T.b_Picture__init__ .nil (fun σ => passAt (takes_of rfl rfl rfl rfl) σ) (by exact (pa_cons (pe_callTy (call_lstK (K := K) rfl) rfl T.n_list rfl (pa_cons (pe_ix (ix_seqK (K := K) rfl) (pv 0) pe_int (fun _ _ => rfl)) pa_nil)) (pa_cons (pe_callTy (call_lstK (K := K) rfl) rfl T.n_list rfl (pa_cons (pe_ix (ix_seqK (K := K) rfl) (pv 0) pe_int (fun _ _ => rfl)) pa_nil)) (pa_cons (pe_callTy (call_lstK (K := K) rfl) rfl T.n_list rfl (pa_cons (pe_ix (ix_seqK (K := K) rfl) (pv 0) pe_int (fun _ _ => rfl)) pa_nil)) pa_nil)))))))), ?_⟩
    exact body_ok (ρ := [.P a_picture_here]) (J := ⟨Zo K A, lay, fun cls d _ H => E cls d H⟩) (esc := List.replicate 1 .U) (sv_ret (ev_make (c := 3) (m := m_Picture__init__) (dvs := []) (dds := []) (ea_cons (ev_new (el_list (Ev.x (ev_op o2_ix (Ev.x (ev_var (i := 0) (d := a_picture_here) rfl)) (Ev.x ev_int))))) (ea_cons (ev_new (el_list (Ev.x (ev_op o2_ix (Ev.x (ev_var (i := 0) (d := a_picture_here) rfl)) (Ev.x ev_int))))) (ea_cons (ev_new (el_list (Ev.x (ev_op o2_ix (Ev.x (ev_var (i := 0) (d := a_picture_here) rfl)) (Ev.x ev_int))))) ea_nil)))) wkU) ⟨cells_start (n := 0) r rfl, by simpa using wd⟩ (fun _ _ _ _ h => h) e
theorem sc__law_odd : FnScope ["_law_hand_here", "_law_bound", "_law_kind"] ["_law_hand_here", "_law_bound"] (defScope s__law_odd) := ⟨rfl, rfl, rfl, by decide +kernel, rfl, by decide +kernel, by decide +kernel⟩
theorem ok__law_odd (T : Tx K mg A) : FnG P w K mg base (L2.CX P w) 3 A.a__law_odd A.d__law_odd ["_law_hand_here", "_law_bound"] (spD (Zo K A) m__law_odd) :=
  fnD_okG T.F__law_odd sc__law_odd (fun vs H Q E h => spD_len (fun cs ds h => match ds, h with | [], _ => rfl | [_], h => absurd rfl h | _ :: _ :: _, _ => rfl) h) fun cdv A' outer s H vs Q E hg hr h => by
    obtain ⟨p, c, cells, L0, G, s0, vs', ds, rfl, hf, wd, r, e⟩ := h
    have hJ : HandJ (⟨Zo K A, fun h => (p, hHO c h) :: L0, fun cls d _ H => E cls d H⟩ : Jc Hd) p c := ⟨[], L0, fun _ => rfl⟩
    match ds, r, e with
    | [], _, e => exact e.elim
    | _ :: _ :: _, _, e => exact e.elim
    | [a_bound], r, e =>
    refine ⟨_, (pss_cons (ps_set (i := 2) sc__law_odd.nd rfl (by first | exact Or.inl rfl | exact Or.inr rfl) (by exact (pe_callG (by exact hg) (ok__law_take T) (hr.mono (by first | decide | exact Nat.le_refl _ | omega | (simp only [Nat.add_eq]; omega))) rfl T.g__law_take T.F__law_take.kp T.b__law_take .nil (fun σ => passAt (takes_of rfl rfl rfl rfl) σ) (by exact (pa_cons (pv 0) (pa_cons pe_int pa_nil)))))) (pss_cons (ps_if (pt_cmpR (op_eqK (K := K) rfl hr.units) (pv 2) pe_int (nomark _)) (pss_one (ps_ret (by exact (pe_op (op_addK (K := K) rfl) (pv 1) (pe_callG (by exact hg) (ok__law_take T) (hr.mono (by first | decide | exact Nat.le_refl _ | omega | (simp only [Nat.add_eq]; omega))) rfl T.g__law_take T.F__law_take.kp T.b__law_take .nil (fun σ => passAt (takes_of rfl rfl rfl rfl) σ) (by exact (pa_cons (pv 0) (pa_cons (pe_op op_pow pe_int pe_int) pa_nil)))))))) pss_nil) (pss_cons (ps_if (pt_cmpR (op_eqK (K := K) rfl hr.units) (pv 2) pe_int (nomark _)) (pss_one (ps_ret (by exact (pe_op op_sub (pe_un un_neg pe_int) (pe_callG (by exact hg) (ok__law_take T) (hr.mono (by first | decide | exact Nat.le_refl _ | omega | (simp only [Nat.add_eq]; omega))) rfl T.g__law_take T.F__law_take.kp T.b__law_take .nil (fun σ => passAt (takes_of rfl rfl rfl rfl) σ) (by exact (pa_cons (pv 0) (pa_cons (pe_op op_pow pe_int pe_int) pa_nil)))))))) pss_nil) (pss_one (ps_ret (by exact (pe_ix (ix_seqK (K := K) rfl) (pe_lst (pa_cons pe_bl (pa_cons pe_bl (pa_cons pe_non (pa_cons pe_str (pa_cons (pe_tup (pa_cons pe_int pa_nil)) (pa_cons pe_str (pa_cons (pv 1) (pa_cons pe_str pa_nil))))))))) (pe_ifExp (pt_cmpR op_lt (pv 2) pe_int (nomark _)) (pe_op op_sub (pv 2) pe_int) pe_int) (fun _ _ => rfl)))))))), ?_⟩
    exact bodyD_ok (ρ := [.A p (hF c cells), .P a_bound, .U]) (J := ⟨Zo K A, fun h => (p, hHO c h) :: L0, fun cls d _ H => E cls d H⟩) (esc := List.replicate 3 .U) (sv_seq (e := fun (v_kind_1 : D) => ([.A p (hF c cells), .P a_bound, .P v_kind_1] : Dm.Env)) (sv_asg (ev_callD (dds := []) hJ rfl (ea_cons ev_int ea_nil)) wkU) (fun v_kind_1 => (sv_ifR (et_test (ev_op o2_eq (Ev.x (ev_var (i := 2) (d := v_kind_1) rfl)) (Ev.x ev_int))) wkU (sv_ret (ev_op o2_add (Ev.x (ev_var (i := 1) (d := a_bound) rfl)) (Ev.x (ev_callD (dds := []) hJ rfl (ea_cons (ev_op o2_pow (Ev.x ev_int) (Ev.x ev_int)) ea_nil)))) wkU) (sv_skip (sv_ifR (et_test (ev_op o2_eq (Ev.x (ev_var (i := 2) (d := v_kind_1) rfl)) (Ev.x ev_int))) wkU (sv_ret (ev_op o2_sub (Ev.x (ev_neg ev_int)) (Ev.x (ev_callD (dds := []) hJ rfl (ea_cons (ev_op o2_pow (Ev.x ev_int) (Ev.x ev_int)) ea_nil)))) wkU) (sv_skip (sv_ret (ev_op o2_ix (Ev.x (ev_new (el_lst (ea_cons ev_bl (ea_cons ev_bl (ea_cons ev_non (ea_cons ev_str (ea_cons (ev_tup (ea_cons ev_int ea_nil)) (ea_cons ev_str (ea_cons (ev_var (i := 1) (d := a_bound) rfl) (ea_cons ev_str ea_nil))))))))))) (Ev.x (ev_ifE (et_test (ev_op o2_lt (Ev.x (ev_var (i := 2) (d := v_kind_1) rfl)) (Ev.x ev_int))) (ev_op o2_sub (Ev.x (ev_var (i := 2) (d := v_kind_1) rfl)) (Ev.x ev_int)) ev_int))) wkU))))))) ⟨cells_hand (n := 1) hf r rfl, by simpa using wd⟩ (fun _ _ _ _ h => h) e
theorem sc__law_rid : FnScope ["_law_hand_here"] ["_law_hand_here"] (defScope s__law_rid) := ⟨rfl, rfl, rfl, by decide +kernel, rfl, by decide +kernel, by decide +kernel⟩
theorem ok__law_rid (T : Tx K mg A) : FnG P w K mg base (L2.CX P w) 3 A.a__law_rid A.d__law_rid ["_law_hand_here"] (spD (Zo K A) m__law_rid) :=
  fnD_okG T.F__law_rid sc__law_rid (fun vs H Q E h => spD_len (fun cs ds h => match ds, h with  | [], h => absurd rfl h | _ :: _, _ => rfl) h) fun cdv A' outer s H vs Q E hg hr h => by
    obtain ⟨p, c, cells, L0, G, s0, vs', ds, rfl, hf, wd, r, e⟩ := h
    have hJ : HandJ (⟨Zo K A, fun h => (p, hHO c h) :: L0, fun cls d _ H => E cls d H⟩ : Jc Hd) p c := ⟨[], L0, fun _ => rfl⟩
    match ds, r, e with
    | _ :: _, _, e => exact e.elim
    | [], r, e =>
    refine ⟨_, (pss_one (ps_ret (by exact (pe_ix (ix_seqK (K := K) rfl) (pe_lst (pa_cons pe_non (pa_cons pe_int (pa_cons pe_str (pa_cons pe_bl (pa_cons (pe_disp (pps_cons pe_int pe_int pps_nil) rfl rfl (by simp) (by decide)) (pa_cons (pe_un un_neg pe_int) pa_nil))))))) (pe_callG (by exact hg) (ok__law_take T) (hr.mono (by first | decide | exact Nat.le_refl _ | omega | (simp only [Nat.add_eq]; omega))) rfl T.g__law_take T.F__law_take.kp T.b__law_take .nil (fun σ => passAt (takes_of rfl rfl rfl rfl) σ) (by exact (pa_cons (pv 0) (pa_cons pe_int pa_nil)))) (fun _ _ => rfl))))), ?_⟩
    exact bodyD_ok (ρ := [.A p (hF c cells)]) (J := ⟨Zo K A, fun h => (p, hHO c h) :: L0, fun cls d _ H => E cls d H⟩) (esc := List.replicate 1 .U) (sv_ret (ev_op o2_ix (Ev.x (ev_new (el_lst (ea_cons ev_non (ea_cons ev_int (ea_cons ev_str (ea_cons ev_bl (ea_cons (ev_dict1 0 1) (ea_cons (ev_neg ev_int) ea_nil))))))))) (Ev.x (ev_callD (dds := []) hJ rfl (ea_cons ev_int ea_nil)))) wkU) ⟨cells_hand (n := 0) hf r rfl, by simpa using wd⟩ (fun _ _ _ _ h => h) e
theorem sc__law_least : FnScope ["_law_ties_here", "_law_tie"] ["_law_ties_here"] (defScope s__law_least) := ⟨rfl, rfl, rfl, by decide +kernel, rfl, by decide +kernel, by decide +kernel⟩
theorem ok__law_least (T : Tx K mg A) : FnG P w K mg base (L2.CX P w) 1 A.a__law_least A.d__law_least ["_law_ties_here"] (spM (Zo K A) m__law_least) :=
  fnD_okG T.F__law_least sc__law_least (fun vs H Q E h => spM_len (fun S ds h => match ds, h with | [], _ => rfl | [_], h => absurd rfl h | _ :: _ :: _, _ => rfl) h) fun cdv A' outer s H vs Q E hg hr h => by
    obtain ⟨S, lay, G, s0, ds, wd, r, e⟩ := h
    match ds, r, e with
    | [], _, e => exact e.elim
    | _ :: _ :: _, _, e => exact e.elim
    | [a_ties_here], r, e =>
    refine ⟨_, (pss_one (ps_ret (by exact (pe_callTy (call_tupK (K := K) rfl) rfl T.n_tuple rfl (pa_cons (pe_callB (cr_sortedTK (K := K) (P := P) (w := w) rfl rfl rfl rfl) rfl T.n_sorted rfl (pa_cons (pe_callTy (cr_setOfTK (K := K) (P := P) (w := w) rfl rfl rfl rfl hr.units) rfl T.n_set rfl (pa_cons (pe_lc (own := [("_law_tie", 1)]) rfl sc__law_least.nd (pi_sqK (K := K) rfl (pv 0)) (blkOk_by (N := ["_law_ties_here", "_law_tie"]) (sc := defScope s__law_least) (by decide +kernel)) (fun _ _ _ _ _ => by exact (pg_name (i := 1) sc__law_least.nd rfl (Or.inl rfl))) (fun _ _ _ _ _ => by exact pts_nil) (fun _ _ _ _ _ => by exact (pe_tup (pa_cons (pe_callB (call_min2 rfl) rfl T.n_min rfl (pa_cons (pe_ix (ix_seqK (K := K) rfl) (pv 1) pe_int (fun _ _ => rfl)) (pa_cons (pe_ix (ix_seqK (K := K) rfl) (pv 1) pe_int (fun _ _ => rfl)) pa_nil))) (pa_cons (pe_callB (call_max2 rfl) rfl T.n_max rfl (pa_cons (pe_ix (ix_seqK (K := K) rfl) (pv 1) pe_int (fun _ _ => rfl)) (pa_cons (pe_ix (ix_seqK (K := K) rfl) (pv 1) pe_int (fun _ _ => rfl)) pa_nil))) pa_nil))))) pa_nil)) pa_nil)) pa_nil))))), ?_⟩
    exact body_ok (ρ := [.P a_ties_here, .U]) (J := ⟨Zo K A, lay, fun cls d _ H => E cls d H⟩) (esc := List.replicate 2 .U) (sv_ret (ev_b1 o1_tuple (Ev.x (ev_new (el_sortsetP (P := P) (w := w) (Ev.x (ev_new (el_lc (ei_sq (ev_var (i := 0) (d := a_ties_here) rfl)) (fun _ _ => (tg_name 1)) (fun t2 _ _ => et_yes) (fun t2 _ _ => (ev_tup (ea_cons (ev_b2 o2_min (Ev.x (ev_op o2_ix (Ev.x (ev_var (i := 1) (d := t2) rfl)) (Ev.x ev_int))) (Ev.x (ev_op o2_ix (Ev.x (ev_var (i := 1) (d := t2) rfl)) (Ev.x ev_int)))) (ea_cons (ev_b2 o2_max (Ev.x (ev_op o2_ix (Ev.x (ev_var (i := 1) (d := t2) rfl)) (Ev.x ev_int))) (Ev.x (ev_op o2_ix (Ev.x (ev_var (i := 1) (d := t2) rfl)) (Ev.x ev_int)))) ea_nil)))) (hO := (List.forall_mem_cons.2 ⟨rfl, (List.forall_mem_nil _)⟩))))))))) wkU) ⟨cells_start (n := 1) r rfl, by simpa using wd⟩ (fun _ _ _ _ h => h) e
theorem sc__law_same : FnScope ["_law_told", "_law_picture_here"] ["_law_told", "_law_picture_here"] (defScope s__law_same) := ⟨rfl, rfl, rfl, by decide +kernel, rfl, by decide +kernel, by decide +kernel⟩
theorem ok__law_same (T : Tx K mg A) : FnG P w K mg base (L2.CX P w) 7 A.a__law_same A.d__law_same ["_law_told", "_law_picture_here"] (spM (Zo K A) m__law_same) :=
  fnD_okG T.F__law_same sc__law_same (fun vs H Q E h => spM_len (fun S ds h => match ds, h with | [], _ => rfl | [_], _ => rfl | [_, _], h => absurd rfl h | _ :: _ :: _ :: _, _ => rfl) h) fun cdv A' outer s H vs Q E hg hr h => by
    obtain ⟨S, lay, G, s0, ds, wd, r, e⟩ := h
    match ds, r, e with
    | [], _, e => exact e.elim
    | [_], _, e => exact e.elim
    | _ :: _ :: _ :: _, _, e => exact e.elim
    | [a_told, a_picture_here], r, e =>
    refine ⟨_, (pss_cons (ps_if (PW.pt (pw_or (pt_not (pt_truK (K := K) rfl (pe_callB (call_isiK (K := K) rfl) rfl T.n_isinstance rfl (pa_cons (pv 0) (pa_cons (pe_glob (v := .ref A.c_Picture) rfl T.g_Picture rfl) pa_nil))) (fun _ => rfl))) (pw_or1 (pt_not (pt_truK (K := K) rfl (pe_callG (by exact hg) (ok__law_tuples T 5) (hr.mono (by first | decide | exact Nat.le_refl _ | omega | (simp only [Nat.add_eq]; omega))) rfl T.g__law_tuples T.F__law_tuples.kp T.b__law_tuples .nil (fun σ => passAt (takes_of rfl rfl rfl rfl) σ) (by exact (pa_cons (pe_tup (pa_cons (pe_fldK (K := K) rfl (pv 0)) (pa_cons (pe_fldK (K := K) rfl (pv 0)) (pa_cons (pe_fldK (K := K) rfl (pv 0)) pa_nil)))) pa_nil))) (fun _ => rfl)))))) (pss_one (ps_ret (by exact pe_bl))) pss_nil) (pss_one (ps_ret (by exact (pe_and (pe_cmpR (op_eqK (K := K) rfl hr.units) (pe_fldK (K := K) rfl (pv 0)) (pe_callTy (call_tupK (K := K) rfl) rfl T.n_tuple rfl (pa_cons (pe_ix (ix_seqK (K := K) rfl) (pv 1) pe_int (fun _ _ => rfl)) pa_nil)) (nomark _)) (pe_and (pe_cmpR (op_eqK (K := K) rfl hr.units) (pe_fldK (K := K) rfl (pv 0)) (pe_callG (by exact hg) (ok__law_least T) (hr.mono (by first | decide | exact Nat.le_refl _ | omega | (simp only [Nat.add_eq]; omega))) rfl T.g__law_least T.F__law_least.kp T.b__law_least .nil (fun σ => passAt (takes_of rfl rfl rfl rfl) σ) (by exact (pa_cons (pe_ix (ix_seqK (K := K) rfl) (pv 1) pe_int (fun _ _ => rfl)) pa_nil))) (nomark _)) (pe_one (pe_cmpR (op_eqK (K := K) rfl hr.units) (pe_fldK (K := K) rfl (pv 0)) (pe_callTy (call_tupK (K := K) rfl) rfl T.n_tuple rfl (pa_cons (pe_ix (ix_seqK (K := K) rfl) (pv 1) pe_int (fun _ _ => rfl)) pa_nil)) (nomark _))))))))), ?_⟩
    exact body_ok (ρ := [.P a_told, .P a_picture_here]) (J := ⟨Zo K A, lay, fun cls d _ H => E cls d H⟩) (esc := List.replicate 2 .U) (sv_ifR (et_or (et_not (et_tru (Ev.x (ev_isc (lo := 3) (hi := 4) T.zo 3 (Ev.x (ev_var (i := 0) (d := a_told) rfl)))))) (et_not (et_tru (Ev.x (ev_call (dds := []) (ea_cons (ev_tup (ea_cons (ev_fld (lo := 3) (hi := 4) T.zo (f := "colours") (Ev.x (ev_var (i := 0) (d := a_told) rfl))) (ea_cons (ev_fld (lo := 3) (hi := 4) T.zo (f := "ties") (Ev.x (ev_var (i := 0) (d := a_told) rfl))) (ea_cons (ev_fld (lo := 3) (hi := 4) T.zo (f := "marks") (Ev.x (ev_var (i := 0) (d := a_told) rfl))) ea_nil)))) ea_nil)))))) wkU (sv_ret ev_bl wkU) (sv_skip (sv_ret (ev_andV (ev_op o2_eq (Ev.x (ev_fld (lo := 3) (hi := 4) T.zo (f := "colours") (Ev.x (ev_var (i := 0) (d := a_told) rfl)))) (Ev.x (ev_b1 o1_tuple (Ev.x (ev_op o2_ix (Ev.x (ev_var (i := 1) (d := a_picture_here) rfl)) (Ev.x ev_int)))))) (ev_andV (ev_op o2_eq (Ev.x (ev_fld (lo := 3) (hi := 4) T.zo (f := "ties") (Ev.x (ev_var (i := 0) (d := a_told) rfl)))) (Ev.x (ev_call (dds := []) (ea_cons (ev_op o2_ix (Ev.x (ev_var (i := 1) (d := a_picture_here) rfl)) (Ev.x ev_int)) ea_nil)))) (ev_op o2_eq (Ev.x (ev_fld (lo := 3) (hi := 4) T.zo (f := "marks") (Ev.x (ev_var (i := 0) (d := a_told) rfl)))) (Ev.x (ev_b1 o1_tuple (Ev.x (ev_op o2_ix (Ev.x (ev_var (i := 1) (d := a_picture_here) rfl)) (Ev.x ev_int)))))))) wkU))) ⟨cells_start (n := 0) r rfl, by simpa using wd⟩ (fun _ _ _ _ h => h) e
theorem sc__law_cell : FnScope ["_law_told", "_law_cell_here", "_law_found", "wrong"] ["_law_told", "_law_cell_here"] (defScope s__law_cell) := ⟨rfl, rfl, rfl, by decide +kernel, rfl, by decide +kernel, by decide +kernel⟩
theorem ok__law_cell (T : Tx K mg A) : FnG P w K mg base (L2.CX P w) 4 A.a__law_cell A.d__law_cell ["_law_told", "_law_cell_here"] (spM (Zo K A) m__law_cell) :=
  fnD_okG T.F__law_cell sc__law_cell (fun vs H Q E h => spM_len (fun S ds h => match ds, h with | [], _ => rfl | [_], _ => rfl | [_, _], h => absurd rfl h | _ :: _ :: _ :: _, _ => rfl) h) fun cdv A' outer s H vs Q E hg hr h => by
    obtain ⟨S, lay, G, s0, ds, wd, r, e⟩ := h
    match ds, r, e with
    | [], _, e => exact e.elim
    | [_], _, e => exact e.elim
    | _ :: _ :: _ :: _, _, e => exact e.elim
    | [a_told, a_cell_here], r, e =>
    refine ⟨_, (pss_cons (ps_tryK (K := K) (Wo := fun cls d _ H => E cls d H) rfl rfl rfl sc__law_cell.nd (takes_of rfl rfl rfl rfl) (fun W pn xe tk po => (pss_cons (ps_set (i := 2) sc__law_cell.nd rfl (by first | exact Or.inl rfl | exact Or.inr rfl) (by exact (pe_callG (by exact hg) (ok_check_cell T) (hr.mono (by first | decide | exact Nat.le_refl _ | omega | (simp only [Nat.add_eq]; omega))) rfl T.g_check_cell T.F_check_cell.kp T.b_check_cell .nil (fun σ => passAt tk σ) (by exact (pa_cons (pv 0) (pa_cons (pv 1) pa_nil)))))) pss_nil)) (HdsA.cons (n := some "wrong") (i := some 3) ⟨rfl, by decide, Or.inl T.g_NoCell⟩ ⟨rfl, rfl⟩ (fun a oe cls d pn hz hf => (pss_cons (ps_set (i := 2) sc__law_cell.nd rfl (by first | exact Or.inl rfl | exact Or.inr rfl) (by exact (pe_lst (pa_cons pe_str (pa_cons (pe_xf T.x_NoCell T.h_NoCell_cell hz hf (pv 3)) pa_nil))))) pss_nil)) HdsA.nil)) (pss_one (ps_ret (by exact (pv 2))))), ?_⟩
    exact body_ok (ρ := [.P a_told, .P a_cell_here, .U, .U]) (J := ⟨Zo K A, lay, fun cls d _ H => E cls d H⟩) (esc := List.replicate 4 .U) (sv_seq (e := fun (s1 : D) => ([.P a_told, .P a_cell_here, .P s1, .U] : Dm.Env)) (sv_tryF (n := 3) (escB := [.P a_told, .P a_cell_here, .U, .U]) ta_gone (exZ T) (fun X1 => sv_J (J2 := ⟨Zo K A, lay, X1⟩) rfl (sv_seq (e := fun (v_found_2 : D) => ([.P a_told, .P a_cell_here, .P v_found_2, .U] : Dm.Env)) (sv_asg (ev_call (dds := []) (ea_cons (ev_var (i := 0) (d := a_told) rfl) (ea_cons (ev_var (i := 1) (d := a_cell_here) rfl) ea_nil))) (by repeat (first | exact Wk.nil | apply Wk.keep | apply Wk.drop))) (fun v_found_2 => (sv_to (g := fun _ => v_found_2) sv_next (fun _ => (Wk.keep (Wk.keep (Wk.keep (Wk.keep Wk.nil))))))))) (HsF.name (c := 1) (i := 3) (fun a dx fs8 => sv_J (J2 := ⟨Zo K A, lay, fun _ _ _ _ => False⟩) rfl (sv_seq (e := fun (v_found_9 : D) => ([.P a_told, .P a_cell_here, .P v_found_9, .A a (xF (Zo K A) dx 1 fs8)] : Dm.Env)) (sv_asg (ev_new (el_lst (ea_cons ev_str (ea_cons (ev_xf (f := "cell") rfl) ea_nil)))) (by repeat (first | exact Wk.nil | apply Wk.keep | apply Wk.drop))) (fun v_found_9 => (sv_to (g := fun _ => v_found_9) sv_next (fun _ => (Wk.keep (Wk.keep (Wk.keep (Wk.drop Wk.nil))))))))) (by intro b; first | rfl | trivial | (cases b <;> first | rfl | trivial)) HsF.nil) (List.forall_mem_cons.2 ⟨Nat.le_of_ble_eq_true rfl, (List.forall_mem_nil _)⟩) (by repeat (first | exact Wk.nil | apply Wk.keep | apply Wk.drop))) (fun s1 => (sv_ret (ev_var (i := 2) (d := s1) rfl) wkU))) ⟨cells_start (n := 2) r rfl, by simpa using wd⟩ (fun _ _ _ _ h => h) e
theorem sc__law_near_of : FnScope ["_law_told", "_law_cell_here", "_law_found", "wrong"] ["_law_told", "_law_cell_here"] (defScope s__law_near_of) := ⟨rfl, rfl, rfl, by decide +kernel, rfl, by decide +kernel, by decide +kernel⟩
theorem ok__law_near_of (T : Tx K mg A) : FnG P w K mg base (L2.CX P w) 5 A.a__law_near_of A.d__law_near_of ["_law_told", "_law_cell_here"] (spM (Zo K A) m__law_near_of) :=
  fnD_okG T.F__law_near_of sc__law_near_of (fun vs H Q E h => spM_len (fun S ds h => match ds, h with | [], _ => rfl | [_], _ => rfl | [_, _], h => absurd rfl h | _ :: _ :: _ :: _, _ => rfl) h) fun cdv A' outer s H vs Q E hg hr h => by
    obtain ⟨S, lay, G, s0, ds, wd, r, e⟩ := h
    match ds, r, e with
    | [], _, e => exact e.elim
    | [_], _, e => exact e.elim
    | _ :: _ :: _ :: _, _, e => exact e.elim
    | [a_told, a_cell_here], r, e =>
    refine ⟨_, (pss_cons (ps_tryK (K := K) (Wo := fun cls d _ H => E cls d H) rfl rfl rfl sc__law_near_of.nd (takes_of rfl rfl rfl rfl) (fun W pn xe tk po => (pss_cons (ps_set (i := 2) sc__law_near_of.nd rfl (by first | exact Or.inl rfl | exact Or.inr rfl) (by exact (pe_callG (by exact hg) (ok_neighbours_of T) (hr.mono (by first | decide | exact Nat.le_refl _ | omega | (simp only [Nat.add_eq]; omega))) rfl T.g_neighbours_of T.F_neighbours_of.kp T.b_neighbours_of .nil (fun σ => passAt tk σ) (by exact (pa_cons (pv 0) (pa_cons (pv 1) pa_nil)))))) pss_nil)) (HdsA.cons (n := some "wrong") (i := some 3) ⟨rfl, by decide, Or.inl T.g_NoCell⟩ ⟨rfl, rfl⟩ (fun a oe cls d pn hz hf => (pss_cons (ps_set (i := 2) sc__law_near_of.nd rfl (by first | exact Or.inl rfl | exact Or.inr rfl) (by exact (pe_lst (pa_cons pe_str (pa_cons (pe_xf T.x_NoCell T.h_NoCell_cell hz hf (pv 3)) pa_nil))))) pss_nil)) HdsA.nil)) (pss_one (ps_ret (by exact (pv 2))))), ?_⟩
    exact body_ok (ρ := [.P a_told, .P a_cell_here, .U, .U]) (J := ⟨Zo K A, lay, fun cls d _ H => E cls d H⟩) (esc := List.replicate 4 .U) (sv_seq (e := fun (s1 : D) => ([.P a_told, .P a_cell_here, .P s1, .U] : Dm.Env)) (sv_tryF (n := 3) (escB := [.P a_told, .P a_cell_here, .U, .U]) ta_gone (exZ T) (fun X1 => sv_J (J2 := ⟨Zo K A, lay, X1⟩) rfl (sv_seq (e := fun (v_found_2 : D) => ([.P a_told, .P a_cell_here, .P v_found_2, .U] : Dm.Env)) (sv_asg (ev_call (dds := []) (ea_cons (ev_var (i := 0) (d := a_told) rfl) (ea_cons (ev_var (i := 1) (d := a_cell_here) rfl) ea_nil))) (by repeat (first | exact Wk.nil | apply Wk.keep | apply Wk.drop))) (fun v_found_2 => (sv_to (g := fun _ => v_found_2) sv_next (fun _ => (Wk.keep (Wk.keep (Wk.keep (Wk.keep Wk.nil))))))))) (HsF.name (c := 1) (i := 3) (fun a dx fs8 => sv_J (J2 := ⟨Zo K A, lay, fun _ _ _ _ => False⟩) rfl (sv_seq (e := fun (v_found_9 : D) => ([.P a_told, .P a_cell_here, .P v_found_9, .A a (xF (Zo K A) dx 1 fs8)] : Dm.Env)) (sv_asg (ev_new (el_lst (ea_cons ev_str (ea_cons (ev_xf (f := "cell") rfl) ea_nil)))) (by repeat (first | exact Wk.nil | apply Wk.keep | apply Wk.drop))) (fun v_found_9 => (sv_to (g := fun _ => v_found_9) sv_next (fun _ => (Wk.keep (Wk.keep (Wk.keep (Wk.drop Wk.nil))))))))) (by intro b; first | rfl | trivial | (cases b <;> first | rfl | trivial)) HsF.nil) (List.forall_mem_cons.2 ⟨Nat.le_of_ble_eq_true rfl, (List.forall_mem_nil _)⟩) (by repeat (first | exact Wk.nil | apply Wk.keep | apply Wk.drop))) (fun s1 => (sv_ret (ev_var (i := 2) (d := s1) rfl) wkU))) ⟨cells_start (n := 2) r rfl, by simpa using wd⟩ (fun _ _ _ _ h => h) e
theorem sc__law_mark : FnScope ["_law_marks_here", "_law_mark_here", "_law_found", "wrong"] ["_law_marks_here", "_law_mark_here"] (defScope s__law_mark) := ⟨rfl, rfl, rfl, by decide +kernel, rfl, by decide +kernel, by decide +kernel⟩
theorem ok__law_mark (T : Tx K mg A) : FnG P w K mg base (L2.CX P w) 4 A.a__law_mark A.d__law_mark ["_law_marks_here", "_law_mark_here"] (spM (Zo K A) m__law_mark) :=
  fnD_okG T.F__law_mark sc__law_mark (fun vs H Q E h => spM_len (fun S ds h => match ds, h with | [], _ => rfl | [_], _ => rfl | [_, _], h => absurd rfl h | _ :: _ :: _ :: _, _ => rfl) h) fun cdv A' outer s H vs Q E hg hr h => by
    obtain ⟨S, lay, G, s0, ds, wd, r, e⟩ := h
    match ds, r, e with
    | [], _, e => exact e.elim
    | [_], _, e => exact e.elim
    | _ :: _ :: _ :: _, _, e => exact e.elim
    | [a_marks_here, a_mark_here], r, e =>
    refine ⟨_, (pss_cons (ps_tryK (K := K) (Wo := fun cls d _ H => E cls d H) rfl rfl rfl sc__law_mark.nd (takes_of rfl rfl rfl rfl) (fun W pn xe tk po => (pss_cons (ps_set (i := 2) sc__law_mark.nd rfl (by first | exact Or.inl rfl | exact Or.inr rfl) (by exact (pe_callG (by exact hg) (ok_check_mark T) (hr.mono (by first | decide | exact Nat.le_refl _ | omega | (simp only [Nat.add_eq]; omega))) rfl T.g_check_mark T.F_check_mark.kp T.b_check_mark .nil (fun σ => passAt tk σ) (by exact (pa_cons (pv 0) (pa_cons (pv 1) pa_nil)))))) pss_nil)) (HdsA.cons (n := some "wrong") (i := some 3) ⟨rfl, by decide, Or.inl T.g_NoMark⟩ ⟨rfl, rfl⟩ (fun a oe cls d pn hz hf => (pss_cons (ps_set (i := 2) sc__law_mark.nd rfl (by first | exact Or.inl rfl | exact Or.inr rfl) (by exact (pe_lst (pa_cons pe_str (pa_cons (pe_xf T.x_NoMark T.h_NoMark_mark hz hf (pv 3)) pa_nil))))) pss_nil)) HdsA.nil)) (pss_one (ps_ret (by exact (pv 2))))), ?_⟩
    exact body_ok (ρ := [.P a_marks_here, .P a_mark_here, .U, .U]) (J := ⟨Zo K A, lay, fun cls d _ H => E cls d H⟩) (esc := List.replicate 4 .U) (sv_seq (e := fun (s1 : D) => ([.P a_marks_here, .P a_mark_here, .P s1, .U] : Dm.Env)) (sv_tryF (n := 3) (escB := [.P a_marks_here, .P a_mark_here, .U, .U]) ta_gone (exZ T) (fun X1 => sv_J (J2 := ⟨Zo K A, lay, X1⟩) rfl (sv_seq (e := fun (v_found_2 : D) => ([.P a_marks_here, .P a_mark_here, .P v_found_2, .U] : Dm.Env)) (sv_asg (ev_call (dds := []) (ea_cons (ev_var (i := 0) (d := a_marks_here) rfl) (ea_cons (ev_var (i := 1) (d := a_mark_here) rfl) ea_nil))) (by repeat (first | exact Wk.nil | apply Wk.keep | apply Wk.drop))) (fun v_found_2 => (sv_to (g := fun _ => v_found_2) sv_next (fun _ => (Wk.keep (Wk.keep (Wk.keep (Wk.keep Wk.nil))))))))) (HsF.name (c := 2) (i := 3) (fun a dx fs8 => sv_J (J2 := ⟨Zo K A, lay, fun _ _ _ _ => False⟩) rfl (sv_seq (e := fun (v_found_9 : D) => ([.P a_marks_here, .P a_mark_here, .P v_found_9, .A a (xF (Zo K A) dx 2 fs8)] : Dm.Env)) (sv_asg (ev_new (el_lst (ea_cons ev_str (ea_cons (ev_xf (f := "mark") rfl) ea_nil)))) (by repeat (first | exact Wk.nil | apply Wk.keep | apply Wk.drop))) (fun v_found_9 => (sv_to (g := fun _ => v_found_9) sv_next (fun _ => (Wk.keep (Wk.keep (Wk.keep (Wk.drop Wk.nil))))))))) (by intro b; first | rfl | trivial | (cases b <;> first | rfl | trivial)) HsF.nil) (List.forall_mem_cons.2 ⟨Nat.le_of_ble_eq_true rfl, (List.forall_mem_nil _)⟩) (by repeat (first | exact Wk.nil | apply Wk.keep | apply Wk.drop))) (fun s1 => (sv_ret (ev_var (i := 2) (d := s1) rfl) wkU))) ⟨cells_start (n := 2) r rfl, by simpa using wd⟩ (fun _ _ _ _ h => h) e
theorem sc__law_new : FnScope ["_law_told", "_law_colours", "_law_found", "wrong"] ["_law_told", "_law_colours"] (defScope s__law_new) := ⟨rfl, rfl, rfl, by decide +kernel, rfl, by decide +kernel, by decide +kernel⟩
theorem ok__law_new (T : Tx K mg A) : FnG P w K mg base (L2.CX P w) 8 A.a__law_new A.d__law_new ["_law_told", "_law_colours"] (spM (Zo K A) m__law_new) :=
  fnD_okG T.F__law_new sc__law_new (fun vs H Q E h => spM_len (fun S ds h => match ds, h with | [], _ => rfl | [_], _ => rfl | [_, _], h => absurd rfl h | _ :: _ :: _ :: _, _ => rfl) h) fun cdv A' outer s H vs Q E hg hr h => by
    obtain ⟨S, lay, G, s0, ds, wd, r, e⟩ := h
    match ds, r, e with
    | [], _, e => exact e.elim
    | [_], _, e => exact e.elim
    | _ :: _ :: _ :: _, _, e => exact e.elim
    | [a_told, a_colours], r, e =>
    refine ⟨_, (pss_cons (ps_tryK (K := K) (Wo := fun cls d _ H => E cls d H) rfl rfl rfl sc__law_new.nd (takes_of rfl rfl rfl rfl) (fun W pn xe tk po => (pss_cons (ps_set (i := 2) sc__law_new.nd rfl (by first | exact Or.inl rfl | exact Or.inr rfl) (by exact (pe_callG (by exact hg) (ok_with_colours T) (hr.mono (by first | decide | exact Nat.le_refl _ | omega | (simp only [Nat.add_eq]; omega))) rfl T.g_with_colours T.F_with_colours.kp T.b_with_colours .nil (fun σ => passAt tk σ) (by exact (pa_cons (pv 0) (pa_cons (pv 1) pa_nil)))))) pss_nil)) (HdsA.cons (n := some "wrong") (i := some 3) ⟨rfl, by decide, Or.inl T.g_BadPicture⟩ ⟨rfl, rfl⟩ (fun a oe cls d pn hz hf => (pss_cons (ps_set (i := 2) sc__law_new.nd rfl (by first | exact Or.inl rfl | exact Or.inr rfl) (by exact (pe_lst (pa_cons (pe_xf T.x_BadPicture T.h_BadPicture_index hz hf (pv 3)) (pa_cons (pe_xf T.x_BadPicture T.h_BadPicture_what hz hf (pv 3)) pa_nil))))) pss_nil)) HdsA.nil)) (pss_one (ps_ret (by exact (pv 2))))), ?_⟩
    exact body_ok (ρ := [.P a_told, .P a_colours, .U, .U]) (J := ⟨Zo K A, lay, fun cls d _ H => E cls d H⟩) (esc := List.replicate 4 .U) (sv_seq (e := fun (s1 : D) => ([.P a_told, .P a_colours, .P s1, .U] : Dm.Env)) (sv_tryF (n := 3) (escB := [.P a_told, .P a_colours, .U, .U]) ta_gone (exZ T) (fun X1 => sv_J (J2 := ⟨Zo K A, lay, X1⟩) rfl (sv_seq (e := fun (v_found_2 : D) => ([.P a_told, .P a_colours, .P v_found_2, .U] : Dm.Env)) (sv_asg (ev_call (dds := []) (ea_cons (ev_var (i := 0) (d := a_told) rfl) (ea_cons (ev_var (i := 1) (d := a_colours) rfl) ea_nil))) (by repeat (first | exact Wk.nil | apply Wk.keep | apply Wk.drop))) (fun v_found_2 => (sv_to (g := fun _ => v_found_2) sv_next (fun _ => (Wk.keep (Wk.keep (Wk.keep (Wk.keep Wk.nil))))))))) (HsF.name (c := 0) (i := 3) (fun a dx fs8 => sv_J (J2 := ⟨Zo K A, lay, fun _ _ _ _ => False⟩) rfl (sv_seq (e := fun (v_found_9 : D) => ([.P a_told, .P a_colours, .P v_found_9, .A a (xF (Zo K A) dx 0 fs8)] : Dm.Env)) (sv_asg (ev_new (el_lst (ea_cons (ev_xf (f := "index") rfl) (ea_cons (ev_xf (f := "what") rfl) ea_nil)))) (by repeat (first | exact Wk.nil | apply Wk.keep | apply Wk.drop))) (fun v_found_9 => (sv_to (g := fun _ => v_found_9) sv_next (fun _ => (Wk.keep (Wk.keep (Wk.keep (Wk.drop Wk.nil))))))))) (by intro b; first | rfl | trivial | (cases b <;> first | rfl | trivial)) HsF.nil) (List.forall_mem_cons.2 ⟨Nat.le_of_ble_eq_true rfl, (List.forall_mem_nil _)⟩) (by repeat (first | exact Wk.nil | apply Wk.keep | apply Wk.drop))) (fun s1 => (sv_ret (ev_var (i := 2) (d := s1) rfl) wkU))) ⟨cells_start (n := 2) r rfl, by simpa using wd⟩ (fun _ _ _ _ h => h) e
theorem sc__law_moved : FnScope ["_law_told", "_law_marks_here", "_law_found", "wrong"] ["_law_told", "_law_marks_here"] (defScope s__law_moved) := ⟨rfl, rfl, rfl, by decide +kernel, rfl, by decide +kernel, by decide +kernel⟩
theorem ok__law_moved (T : Tx K mg A) : FnG P w K mg base (L2.CX P w) 8 A.a__law_moved A.d__law_moved ["_law_told", "_law_marks_here"] (spM (Zo K A) m__law_moved) :=
  fnD_okG T.F__law_moved sc__law_moved (fun vs H Q E h => spM_len (fun S ds h => match ds, h with | [], _ => rfl | [_], _ => rfl | [_, _], h => absurd rfl h | _ :: _ :: _ :: _, _ => rfl) h) fun cdv A' outer s H vs Q E hg hr h => by
    obtain ⟨S, lay, G, s0, ds, wd, r, e⟩ := h
    match ds, r, e with
    | [], _, e => exact e.elim
    | [_], _, e => exact e.elim
    | _ :: _ :: _ :: _, _, e => exact e.elim
    | [a_told, a_marks_here], r, e =>
    refine ⟨_, (pss_cons (ps_tryK (K := K) (Wo := fun cls d _ H => E cls d H) rfl rfl rfl sc__law_moved.nd (takes_of rfl rfl rfl rfl) (fun W pn xe tk po => (pss_cons (ps_set (i := 2) sc__law_moved.nd rfl (by first | exact Or.inl rfl | exact Or.inr rfl) (by exact (pe_callG (by exact hg) (ok_with_marks T) (hr.mono (by first | decide | exact Nat.le_refl _ | omega | (simp only [Nat.add_eq]; omega))) rfl T.g_with_marks T.F_with_marks.kp T.b_with_marks .nil (fun σ => passAt tk σ) (by exact (pa_cons (pv 0) (pa_cons (pv 1) pa_nil)))))) pss_nil)) (HdsA.cons (n := some "wrong") (i := some 3) ⟨rfl, by decide, Or.inl T.g_BadPicture⟩ ⟨rfl, rfl⟩ (fun a oe cls d pn hz hf => (pss_cons (ps_set (i := 2) sc__law_moved.nd rfl (by first | exact Or.inl rfl | exact Or.inr rfl) (by exact (pe_lst (pa_cons (pe_xf T.x_BadPicture T.h_BadPicture_index hz hf (pv 3)) (pa_cons (pe_xf T.x_BadPicture T.h_BadPicture_what hz hf (pv 3)) pa_nil))))) pss_nil)) HdsA.nil)) (pss_one (ps_ret (by exact (pv 2))))), ?_⟩
    exact body_ok (ρ := [.P a_told, .P a_marks_here, .U, .U]) (J := ⟨Zo K A, lay, fun cls d _ H => E cls d H⟩) (esc := List.replicate 4 .U) (sv_seq (e := fun (s1 : D) => ([.P a_told, .P a_marks_here, .P s1, .U] : Dm.Env)) (sv_tryF (n := 3) (escB := [.P a_told, .P a_marks_here, .U, .U]) ta_gone (exZ T) (fun X1 => sv_J (J2 := ⟨Zo K A, lay, X1⟩) rfl (sv_seq (e := fun (v_found_2 : D) => ([.P a_told, .P a_marks_here, .P v_found_2, .U] : Dm.Env)) (sv_asg (ev_call (dds := []) (ea_cons (ev_var (i := 0) (d := a_told) rfl) (ea_cons (ev_var (i := 1) (d := a_marks_here) rfl) ea_nil))) (by repeat (first | exact Wk.nil | apply Wk.keep | apply Wk.drop))) (fun v_found_2 => (sv_to (g := fun _ => v_found_2) sv_next (fun _ => (Wk.keep (Wk.keep (Wk.keep (Wk.keep Wk.nil))))))))) (HsF.name (c := 0) (i := 3) (fun a dx fs8 => sv_J (J2 := ⟨Zo K A, lay, fun _ _ _ _ => False⟩) rfl (sv_seq (e := fun (v_found_9 : D) => ([.P a_told, .P a_marks_here, .P v_found_9, .A a (xF (Zo K A) dx 0 fs8)] : Dm.Env)) (sv_asg (ev_new (el_lst (ea_cons (ev_xf (f := "index") rfl) (ea_cons (ev_xf (f := "what") rfl) ea_nil)))) (by repeat (first | exact Wk.nil | apply Wk.keep | apply Wk.drop))) (fun v_found_9 => (sv_to (g := fun _ => v_found_9) sv_next (fun _ => (Wk.keep (Wk.keep (Wk.keep (Wk.drop Wk.nil))))))))) (by intro b; first | rfl | trivial | (cases b <;> first | rfl | trivial)) HsF.nil) (List.forall_mem_cons.2 ⟨Nat.le_of_ble_eq_true rfl, (List.forall_mem_nil _)⟩) (by repeat (first | exact Wk.nil | apply Wk.keep | apply Wk.drop))) (fun s1 => (sv_ret (ev_var (i := 2) (d := s1) rfl) wkU))) ⟨cells_start (n := 2) r rfl, by simpa using wd⟩ (fun _ _ _ _ h => h) e
theorem sc_law : FnScope ["_law_script", "_law_hand_here", "_law_picture_here", "_law_many", "_law_told", "_law_near_here", "_law_cell_here", "_law_found", "_law_marks_here", "_law_mark_here", "_law_good", "_law_colours", "_law_given", "_law_at", "_law_others", "_law_spoilt"] ["_law_script"] (defScope s_law) := ⟨rfl, rfl, rfl, by decide +kernel, rfl, by decide +kernel, by decide +kernel⟩
theorem ok_law (T : Tx K mg A) (hm : ∀ (cells : List Int) (tot : Int), cells.length ≤ 63 → ∃ s, m_law cells ⟨0, 0, tot⟩ = .ok (.bl true) s) : FnG P w K mg base (L2.CX P w) 9 A.a_law A.d_law ["_law_script"] (spLaw K) :=
  fnD_okG T.F_law sc_law (fun vs H Q E h => by obtain ⟨a, ns, rfl, _⟩ := h; rfl) fun cdv A' outer s H vs Q E hg hr h => by
    refine ⟨_, pss_cons (ps_set (i := 1) sc_law.nd rfl (by first | exact Or.inl rfl | exact Or.inr rfl) (by exact (pe_callSD (ok__law_hand T) (hr.mono (by first | decide | exact Nat.le_refl _ | omega | (simp only [Nat.add_eq]; omega))) rfl T.g__law_hand T.F__law_hand.kp T.b__law_hand .nil (fun σ => passAt (takes_of rfl rfl rfl rfl) σ) (by exact (pa_cons (pv 0) pa_nil)))) ) (pss_cons (ps_set (i := 2) sc_law.nd rfl (by first | exact Or.inl rfl | exact Or.inr rfl) (by exact (pe_callG (by exact hg) (ok__law_picture T) (hr.mono (by first | decide | exact Nat.le_refl _ | omega | (simp only [Nat.add_eq]; omega))) rfl T.g__law_picture T.F__law_picture.kp T.b__law_picture .nil (fun σ => passAt (takes_of rfl rfl rfl rfl) σ) (by exact (pa_cons (pv 1) (pa_cons pe_int (pa_cons (pe_op (op_addK (K := K) rfl) pe_int (pe_callG (by exact hg) (ok__law_take T) (hr.mono (by first | decide | exact Nat.le_refl _ | omega | (simp only [Nat.add_eq]; omega))) rfl T.g__law_take T.F__law_take.kp T.b__law_take .nil (fun σ => passAt (takes_of rfl rfl rfl rfl) σ) (by exact (pa_cons (pv 1) (pa_cons pe_int pa_nil))))) pa_nil))))))) (pss_cons (ps_if (pt_cmpR (op_eqK (K := K) rfl hr.units) (pe_callG (by exact hg) (ok__law_take T) (hr.mono (by first | decide | exact Nat.le_refl _ | omega | (simp only [Nat.add_eq]; omega))) rfl T.g__law_take T.F__law_take.kp T.b__law_take .nil (fun σ => passAt (takes_of rfl rfl rfl rfl) σ) (by exact (pa_cons (pv 1) (pa_cons pe_int pa_nil)))) pe_int (nomark _)) (pss_cons (ps_asg (pe_op (op_addK (K := K) rfl) (pe_ix (ix_seqK (K := K) rfl) (pv 2) pe_int (fun _ _ => rfl)) (pe_op op_mulG (pe_lst (pa_cons pe_int pa_nil)) (pe_op op_sub pe_int (pe_callB (call_lnK (K := K) rfl) rfl T.n_len rfl (pa_cons (pe_ix (ix_seqK (K := K) rfl) (pv 2) pe_int (fun _ _ => rfl)) pa_nil))))) (pg_sub (pv 2) pe_int set_list)) (pss_cons (ps_asg (pe_op (op_addK (K := K) rfl) (pe_ix (ix_seqK (K := K) rfl) (pv 2) pe_int (fun _ _ => rfl)) (pe_lst (pa_cons (pe_tup (pa_cons pe_int (pa_cons pe_int pa_nil))) (pa_cons (pe_tup (pa_cons (pe_callG (by exact hg) (ok__law_take T) (hr.mono (by first | decide | exact Nat.le_refl _ | omega | (simp only [Nat.add_eq]; omega))) rfl T.g__law_take T.F__law_take.kp T.b__law_take .nil (fun σ => passAt (takes_of rfl rfl rfl rfl) σ) (by exact (pa_cons (pv 1) (pa_cons pe_int pa_nil)))) (pa_cons pe_int pa_nil))) pa_nil)))) (pg_sub (pv 2) pe_int set_list)) pss_nil)) pss_nil) (pss_cons (ps_set (i := 3) sc_law.nd rfl (by first | exact Or.inl rfl | exact Or.inr rfl) (by exact (pe_callB (call_lnK (K := K) rfl) rfl T.n_len rfl (pa_cons (pe_ix (ix_seqK (K := K) rfl) (pv 2) pe_int (fun _ _ => rfl)) pa_nil)))) (pss_cons (ps_set (i := 4) sc_law.nd rfl (by first | exact Or.inl rfl | exact Or.inr rfl) (by exact (pe_callG (by exact hg) (ok__law_made T) (hr.mono (by first | decide | exact Nat.le_refl _ | omega | (simp only [Nat.add_eq]; omega))) rfl T.g__law_made T.F__law_made.kp T.b__law_made .nil (fun σ => passAt (takes_of rfl rfl rfl rfl) σ) (by exact (pa_cons (pv 2) pa_nil))))) (pss_cons (ps_set (i := 5) sc_law.nd rfl (by first | exact Or.inl rfl | exact Or.inr rfl) (by exact (pe_callG (by exact hg) (ok__law_near T) (hr.mono (by first | decide | exact Nat.le_refl _ | omega | (simp only [Nat.add_eq]; omega))) rfl T.g__law_near T.F__law_near.kp T.b__law_near .nil (fun σ => passAt (takes_of rfl rfl rfl rfl) σ) (by exact (pa_cons (pv 3) (pa_cons (pe_callG (by exact hg) (ok__law_least T) (hr.mono (by first | decide | exact Nat.le_refl _ | omega | (simp only [Nat.add_eq]; omega))) rfl T.g__law_least T.F__law_least.kp T.b__law_least .nil (fun σ => passAt (takes_of rfl rfl rfl rfl) σ) (by exact (pa_cons (pe_ix (ix_seqK (K := K) rfl) (pv 2) pe_int (fun _ _ => rfl)) pa_nil))) pa_nil)))))) (pss_cons (ps_for PassesOwn.leaving rfl (pi_sqK (K := K) rfl (pe_op (op_addK (K := K) rfl) (pe_listRg rfl rfl T.n_list (prg_1 rfl T.n_range (pe_callB (call_min2 rfl) rfl T.n_min rfl (pa_cons (pv 3) (pa_cons pe_int pa_nil))))) (pe_lst (pa_cons (pe_op op_sub (pv 3) pe_int) pa_nil)))) (pg_name (i := 6) sc_law.nd rfl (by first | exact Or.inl rfl | exact Or.inr rfl)) (pss_cons (ps_set (i := 7) sc_law.nd rfl (by first | exact Or.inl rfl | exact Or.inr rfl) (by exact (pe_callG (by exact hg) (ok__law_near_of T) (hr.mono (by first | decide | exact Nat.le_refl _ | omega | (simp only [Nat.add_eq]; omega))) rfl T.g__law_near_of T.F__law_near_of.kp T.b__law_near_of .nil (fun σ => passAt (takes_of rfl rfl rfl rfl) σ) (by exact (pa_cons (pv 4) (pa_cons (pv 6) pa_nil)))))) (pss_one (ps_if (PW.pt (pw_or (pt_cmpR (op_neK (K := K) rfl hr.units) (pv 7) (pe_callTy (call_tupK (K := K) rfl) rfl T.n_tuple rfl (pa_cons (pe_callB (cr_sortedIK (K := K) rfl) rfl T.n_sorted rfl (pa_cons (pe_ix (ix_seqK (K := K) rfl) (pv 5) (pv 6) (fun _ _ => rfl)) pa_nil)) pa_nil)) (nomark _)) (pw_or (pt_not (pt_truK (K := K) rfl (pe_callG (by exact hg) (ok__law_tuples T 5) (hr.mono (by first | decide | exact Nat.le_refl _ | omega | (simp only [Nat.add_eq]; omega))) rfl T.g__law_tuples T.F__law_tuples.kp T.b__law_tuples .nil (fun σ => passAt (takes_of rfl rfl rfl rfl) σ) (by exact (pa_cons (pv 7) pa_nil))) (fun _ => rfl))) (pw_or1 (pt_cmpR (op_neK (K := K) rfl hr.units) (pe_callG (by exact hg) (ok__law_cell T) (hr.mono (by first | decide | exact Nat.le_refl _ | omega | (simp only [Nat.add_eq]; omega))) rfl T.g__law_cell T.F__law_cell.kp T.b__law_cell .nil (fun σ => passAt (takes_of rfl rfl rfl rfl) σ) (by exact (pa_cons (pv 4) (pa_cons (pv 6) pa_nil)))) (pv 6) (nomark _)))))) (pss_one (ps_ret (by exact pe_bl))) pss_nil)))) (pss_cons (ps_for PassesOwn.leaving rfl (pi_sqK (K := K) rfl (pe_lst (pa_cons (pv 3) (pa_cons (pe_un un_neg pe_int) (pa_cons pe_bl (pa_cons pe_non (pa_cons (pe_callG (by exact hg) (ok__law_odd T) (hr.mono (by first | decide | exact Nat.le_refl _ | omega | (simp only [Nat.add_eq]; omega))) rfl T.g__law_odd T.F__law_odd.kp T.b__law_odd .nil (fun σ => passAt (takes_of rfl rfl rfl rfl) σ) (by exact (pa_cons (pv 1) (pa_cons (pv 3) pa_nil)))) pa_nil))))))) (pg_name (i := 6) sc_law.nd rfl (by first | exact Or.inl rfl | exact Or.inr rfl)) (pss_one (ps_if (PW.pt (pw_or (pt_cmpR (op_neK (K := K) rfl hr.units) (pe_callG (by exact hg) (ok__law_cell T) (hr.mono (by first | decide | exact Nat.le_refl _ | omega | (simp only [Nat.add_eq]; omega))) rfl T.g__law_cell T.F__law_cell.kp T.b__law_cell .nil (fun σ => passAt (takes_of rfl rfl rfl rfl) σ) (by exact (pa_cons (pv 4) (pa_cons (pv 6) pa_nil)))) (pe_lst (pa_cons pe_str (pa_cons (pv 6) pa_nil))) (nomark _)) (pw_or1 (pt_cmpR (op_neK (K := K) rfl hr.units) (pe_callG (by exact hg) (ok__law_near_of T) (hr.mono (by first | decide | exact Nat.le_refl _ | omega | (simp only [Nat.add_eq]; omega))) rfl T.g__law_near_of T.F__law_near_of.kp T.b__law_near_of .nil (fun σ => passAt (takes_of rfl rfl rfl rfl) σ) (by exact (pa_cons (pv 4) (pa_cons (pv 6) pa_nil)))) (pe_lst (pa_cons pe_str (pa_cons (pv 6) pa_nil))) (nomark _))))) (pss_one (ps_ret (by exact pe_bl))) pss_nil))) (pss_cons (ps_set (i := 8) sc_law.nd rfl (by first | exact Or.inl rfl | exact Or.inr rfl) (by exact (pe_callB (call_lnK (K := K) rfl) rfl T.n_len rfl (pa_cons (pe_ix (ix_seqK (K := K) rfl) (pv 2) pe_int (fun _ _ => rfl)) pa_nil)))) (pss_cons (ps_for PassesOwn.leaving rfl (pi_sqK (K := K) rfl (pe_lst (pa_cons pe_int (pa_cons (pe_op op_sub (pv 8) pe_int) (pa_cons (pv 8) (pa_cons (pe_un un_neg pe_int) (pa_cons pe_bl (pa_cons pe_non (pa_cons (pe_callG (by exact hg) (ok__law_odd T) (hr.mono (by first | decide | exact Nat.le_refl _ | omega | (simp only [Nat.add_eq]; omega))) rfl T.g__law_odd T.F__law_odd.kp T.b__law_odd .nil (fun σ => passAt (takes_of rfl rfl rfl rfl) σ) (by exact (pa_cons (pv 1) (pa_cons (pv 8) pa_nil)))) pa_nil))))))))) (pg_name (i := 9) sc_law.nd rfl (by first | exact Or.inl rfl | exact Or.inr rfl)) (pss_cons (ps_set (i := 10) sc_law.nd rfl (by first | exact Or.inl rfl | exact Or.inr rfl) (by exact (pe_and (pe_callB (call_isiK (K := K) rfl) rfl T.n_isinstance rfl (pa_cons (pv 9) (pa_cons (pe_bltn (v := .ty "int") rfl T.n_int rfl rfl) pa_nil))) (pe_and (pe_not (pe_callB (call_isiK (K := K) rfl) rfl T.n_isinstance rfl (pa_cons (pv 9) (pa_cons (pe_bltn (v := .ty "bool") rfl T.n_bool rfl rfl) pa_nil)))) (pe_one (pe_chain op_le op_lt pe_int (pv 9) (pv 8))))))) (pss_one (ps_if (pt_cmpR (op_neK (K := K) rfl hr.units) (pe_callG (by exact hg) (ok__law_mark T) (hr.mono (by first | decide | exact Nat.le_refl _ | omega | (simp only [Nat.add_eq]; omega))) rfl T.g__law_mark T.F__law_mark.kp T.b__law_mark .nil (fun σ => passAt (takes_of rfl rfl rfl rfl) σ) (by exact (pa_cons (pv 8) (pa_cons (pv 9) pa_nil)))) (pe_ifExp (pt_truK (K := K) rfl (pv 10) (fun _ => rfl)) (pv 9) (pe_lst (pa_cons pe_str (pa_cons (pv 9) pa_nil)))) (nomark _)) (pss_one (ps_ret (by exact pe_bl))) pss_nil)))) (pss_cons (ps_set (i := 11) sc_law.nd rfl (by first | exact Or.inl rfl | exact Or.inr rfl) (by exact (pe_ifExp (pt_cmpR op_lt (pv 3) pe_int (nomark _)) (pe_lc (own := [("_law_cell_here", 6)]) rfl sc_law.nd (pi_range1 rfl T.n_range (pa_cons (pv 3) pa_nil)) (blkOk_by (N := ["_law_script", "_law_hand_here", "_law_picture_here", "_law_many", "_law_told", "_law_near_here", "_law_cell_here", "_law_found", "_law_marks_here", "_law_mark_here", "_law_good", "_law_colours", "_law_given", "_law_at", "_law_others", "_law_spoilt"]) (sc := defScope s_law) (by decide +kernel)) (fun _ _ _ _ _ => by exact (pg_name (i := 6) sc_law.nd rfl (Or.inl rfl))) (fun _ _ _ _ _ => by exact pts_nil) (fun _ _ _ _ _ => by exact (pe_callG (by exact hg) (ok__law_colour T) (hr.mono (by first | decide | exact Nat.le_refl _ | omega | (simp only [Nat.add_eq]; omega))) rfl T.g__law_colour T.F__law_colour.kp T.b__law_colour .nil (passN (fun _ _ _ _ q => q)) (by exact (pa_cons (pv 1) pa_nil))))) (pe_lc (own := [("_law_cell_here", 6)]) rfl sc_law.nd (pi_range1 rfl T.n_range (pa_cons (pv 3) pa_nil)) (blkOk_by (N := ["_law_script", "_law_hand_here", "_law_picture_here", "_law_many", "_law_told", "_law_near_here", "_law_cell_here", "_law_found", "_law_marks_here", "_law_mark_here", "_law_good", "_law_colours", "_law_given", "_law_at", "_law_others", "_law_spoilt"]) (sc := defScope s_law) (by decide +kernel)) (fun _ _ _ _ _ => by exact (pg_name (i := 6) sc_law.nd rfl (Or.inl rfl))) (fun _ _ _ _ _ => by exact pts_nil) (fun _ _ _ _ _ => by exact (pe_op op_modN (pe_callTy call_int1 rfl T.n_int rfl (pa_cons (pv 6) pa_nil)) pe_int)))))) (pss_cons (ps_set (i := 12) sc_law.nd rfl (by first | exact Or.inl rfl | exact Or.inr rfl) (by exact (pe_callTy (call_lstK (K := K) rfl) rfl T.n_list rfl (pa_cons (pv 11) pa_nil)))) (pss_cons (ps_set (i := 7) sc_law.nd rfl (by first | exact Or.inl rfl | exact Or.inr rfl) (by exact (pe_lock (pe_callG (by exact hg) (ok__law_new T) (hr.mono (by first | decide | exact Nat.le_refl _ | omega | (simp only [Nat.add_eq]; omega))) rfl T.g__law_new T.F__law_new.kp T.b__law_new .nil (fun σ => passAt (takes_of rfl rfl rfl rfl) σ) (by exact (pa_cons (pv 4) (pa_cons (pv 12) pa_nil))))))) (pss_cons (ps_if (PW.pt (pw_or (pt_not (pt_truK (K := K) rfl (pe_callG (by exact hg) (ok__law_same T) (hr.mono (by first | decide | exact Nat.le_refl _ | omega | (simp only [Nat.add_eq]; omega))) rfl T.g__law_same T.F__law_same.kp T.b__law_same .nil (fun σ => passAt (takes_of rfl rfl rfl rfl) σ) (by exact (pa_cons (pv 7) (pa_cons (pe_lst (pa_cons (pv 11) (pa_cons (pe_ix (ix_seqK (K := K) rfl) (pv 2) pe_int (fun _ _ => rfl)) (pa_cons (pe_ix (ix_seqK (K := K) rfl) (pv 2) pe_int (fun _ _ => rfl)) pa_nil)))) pa_nil)))) (fun _ => rfl))) (pw_or1 (pt_cmpR (op_neK (K := K) rfl hr.units) (pv 12) (pv 11) (nomark _))))) (pss_one (ps_ret (by exact pe_bl))) pss_nil) (pss_cons (ps_set (i := 13) sc_law.nd rfl (by first | exact Or.inl rfl | exact Or.inr rfl) (by exact (pe_callG (by exact hg) (ok__law_take T) (hr.mono (by first | decide | exact Nat.le_refl _ | omega | (simp only [Nat.add_eq]; omega))) rfl T.g__law_take T.F__law_take.kp T.b__law_take .nil (fun σ => passAt (takes_of rfl rfl rfl rfl) σ) (by exact (pa_cons (pv 1) (pa_cons (pv 3) pa_nil)))))) (pss_cons (ps_asg (pe_callG (by exact hg) (ok__law_odd T) (hr.mono (by first | decide | exact Nat.le_refl _ | omega | (simp only [Nat.add_eq]; omega))) rfl T.g__law_odd T.F__law_odd.kp T.b__law_odd .nil (fun σ => passAt (takes_of rfl rfl rfl rfl) σ) (by exact (pa_cons (pv 1) (pa_cons pe_int pa_nil)))) (pg_sub (pv 12) (pv 13) set_list)) (pss_cons (ps_if (PW.pt (pw_or (pt_cmpR (op_neK (K := K) rfl hr.units) (pe_lock (pe_callG (by exact hg) (ok__law_new T) (hr.mono (by first | decide | exact Nat.le_refl _ | omega | (simp only [Nat.add_eq]; omega))) rfl T.g__law_new T.F__law_new.kp T.b__law_new .nil (fun σ => passAt (takes_of rfl rfl rfl rfl) σ) (by exact (pa_cons (pv 4) (pa_cons (pv 12) pa_nil))))) (pe_lst (pa_cons (pv 13) (pa_cons pe_str pa_nil))) (nomark _)) (pw_or1 (pt_not (pt_truK (K := K) rfl (pe_callG (by exact hg) (ok__law_same T) (hr.mono (by first | decide | exact Nat.le_refl _ | omega | (simp only [Nat.add_eq]; omega))) rfl T.g__law_same T.F__law_same.kp T.b__law_same .nil (fun σ => passAt (takes_of rfl rfl rfl rfl) σ) (by exact (pa_cons (pv 7) (pa_cons (pe_lst (pa_cons (pv 11) (pa_cons (pe_ix (ix_seqK (K := K) rfl) (pv 2) pe_int (fun _ _ => rfl)) (pa_cons (pe_ix (ix_seqK (K := K) rfl) (pv 2) pe_int (fun _ _ => rfl)) pa_nil)))) pa_nil)))) (fun _ => rfl)))))) (pss_one (ps_ret (by exact pe_bl))) pss_nil) (pss_cons (ps_if (PW.pt (pw_or (pt_cmpR (op_neK (K := K) rfl hr.units) (pe_callG (by exact hg) (ok__law_new T) (hr.mono (by first | decide | exact Nat.le_refl _ | omega | (simp only [Nat.add_eq]; omega))) rfl T.g__law_new T.F__law_new.kp T.b__law_new .nil (fun σ => passAt (takes_of rfl rfl rfl rfl) σ) (by exact (pa_cons (pv 4) (pa_cons (pe_slice (sl_anyK (K := K) rfl) (pv 11) (po_some pe_int) po_none) pa_nil)))) (pe_lst (pa_cons pe_int (pa_cons pe_str pa_nil))) (nomark _)) (pw_or (pt_cmpR (op_neK (K := K) rfl hr.units) (pe_callG (by exact hg) (ok__law_new T) (hr.mono (by first | decide | exact Nat.le_refl _ | omega | (simp only [Nat.add_eq]; omega))) rfl T.g__law_new T.F__law_new.kp T.b__law_new .nil (fun σ => passAt (takes_of rfl rfl rfl rfl) σ) (by exact (pa_cons (pv 4) (pa_cons (pe_op (op_addK (K := K) rfl) (pv 11) (pe_lst (pa_cons pe_int pa_nil))) pa_nil)))) (pe_lst (pa_cons pe_int (pa_cons pe_str pa_nil))) (nomark _)) (pw_or1 (pt_cmpR (op_neK (K := K) rfl hr.units) (pe_callG (by exact hg) (ok__law_new T) (hr.mono (by first | decide | exact Nat.le_refl _ | omega | (simp only [Nat.add_eq]; omega))) rfl T.g__law_new T.F__law_new.kp T.b__law_new .nil (fun σ => passAt (takes_of rfl rfl rfl rfl) σ) (by exact (pa_cons (pv 4) (pa_cons (pe_callG (by exact hg) (ok__law_rid T) (hr.mono (by first | decide | exact Nat.le_refl _ | omega | (simp only [Nat.add_eq]; omega))) rfl T.g__law_rid T.F__law_rid.kp T.b__law_rid .nil (fun σ => passAt (takes_of rfl rfl rfl rfl) σ) (by exact (pa_cons (pv 1) pa_nil))) pa_nil)))) (pe_lst (pa_cons pe_int (pa_cons pe_str pa_nil))) (nomark _)))))) (pss_one (ps_ret (by exact pe_bl))) pss_nil) (pss_cons (ps_set (i := 14) sc_law.nd rfl (by first | exact Or.inl rfl | exact Or.inr rfl) (by exact (pe_callG (by exact hg) (ok__law_marks T) (hr.mono (by first | decide | exact Nat.le_refl _ | omega | (simp only [Nat.add_eq]; omega))) rfl T.g__law_marks T.F__law_marks.kp T.b__law_marks .nil (fun σ => passAt (takes_of rfl rfl rfl rfl) σ) (by exact (pa_cons (pv 1) (pa_cons (pv 3) (pa_cons (pe_op (op_addK (K := K) rfl) pe_int (pe_callG (by exact hg) (ok__law_take T) (hr.mono (by first | decide | exact Nat.le_refl _ | omega | (simp only [Nat.add_eq]; omega))) rfl T.g__law_take T.F__law_take.kp T.b__law_take .nil (fun σ => passAt (takes_of rfl rfl rfl rfl) σ) (by exact (pa_cons (pv 1) (pa_cons pe_int pa_nil))))) pa_nil))))))) (pss_cons (ps_if (pt_not (pt_truK (K := K) rfl (pe_callG (by exact hg) (ok__law_same T) (hr.mono (by first | decide | exact Nat.le_refl _ | omega | (simp only [Nat.add_eq]; omega))) rfl T.g__law_same T.F__law_same.kp T.b__law_same .nil (fun σ => passAt (takes_of rfl rfl rfl rfl) σ) (by exact (pa_cons (pe_callG (by exact hg) (ok__law_moved T) (hr.mono (by first | decide | exact Nat.le_refl _ | omega | (simp only [Nat.add_eq]; omega))) rfl T.g__law_moved T.F__law_moved.kp T.b__law_moved .nil (fun σ => passAt (takes_of rfl rfl rfl rfl) σ) (by exact (pa_cons (pv 4) (pa_cons (pe_callTy (call_tupK (K := K) rfl) rfl T.n_tuple rfl (pa_cons (pv 14) pa_nil)) pa_nil)))) (pa_cons (pe_lst (pa_cons (pe_ix (ix_seqK (K := K) rfl) (pv 2) pe_int (fun _ _ => rfl)) (pa_cons (pe_ix (ix_seqK (K := K) rfl) (pv 2) pe_int (fun _ _ => rfl)) (pa_cons (pv 14) pa_nil)))) pa_nil)))) (fun _ => rfl))) (pss_one (ps_ret (by exact pe_bl))) pss_nil) (pss_cons (ps_set (i := 13) sc_law.nd rfl (by first | exact Or.inl rfl | exact Or.inr rfl) (by exact (pe_callG (by exact hg) (ok__law_take T) (hr.mono (by first | decide | exact Nat.le_refl _ | omega | (simp only [Nat.add_eq]; omega))) rfl T.g__law_take T.F__law_take.kp T.b__law_take .nil (fun σ => passAt (takes_of rfl rfl rfl rfl) σ) (by exact (pa_cons (pv 1) (pa_cons (pe_callB (call_lnK (K := K) rfl) rfl T.n_len rfl (pa_cons (pv 14) pa_nil)) pa_nil)))))) (pss_cons (ps_set (i := 15) sc_law.nd rfl (by first | exact Or.inl rfl | exact Or.inr rfl) (by exact (pe_op (op_addK (K := K) rfl) (pe_op (op_addK (K := K) rfl) (pe_slice (sl_anyK (K := K) rfl) (pv 14) po_none (po_some (pv 13))) (pe_lst (pa_cons (pe_callG (by exact hg) (ok__law_odd T) (hr.mono (by first | decide | exact Nat.le_refl _ | omega | (simp only [Nat.add_eq]; omega))) rfl T.g__law_odd T.F__law_odd.kp T.b__law_odd .nil (fun σ => passAt (takes_of rfl rfl rfl rfl) σ) (by exact (pa_cons (pv 1) (pa_cons (pv 3) pa_nil)))) pa_nil))) (pe_slice (sl_anyK (K := K) rfl) (pv 14) (po_some (pe_op (op_addK (K := K) rfl) (pv 13) pe_int)) po_none)))) (pss_cons (ps_if (PW.pt (pw_or (pt_cmpR (op_neK (K := K) rfl hr.units) (pe_callG (by exact hg) (ok__law_moved T) (hr.mono (by first | decide | exact Nat.le_refl _ | omega | (simp only [Nat.add_eq]; omega))) rfl T.g__law_moved T.F__law_moved.kp T.b__law_moved .nil (fun σ => passAt (takes_of rfl rfl rfl rfl) σ) (by exact (pa_cons (pv 4) (pa_cons (pv 15) pa_nil)))) (pe_lst (pa_cons (pv 13) (pa_cons pe_str pa_nil))) (nomark _)) (pw_or1 (pt_cmpR (op_neK (K := K) rfl hr.units) (pe_callG (by exact hg) (ok__law_moved T) (hr.mono (by first | decide | exact Nat.le_refl _ | omega | (simp only [Nat.add_eq]; omega))) rfl T.g__law_moved T.F__law_moved.kp T.b__law_moved .nil (fun σ => passAt (takes_of rfl rfl rfl rfl) σ) (by exact (pa_cons (pv 4) (pa_cons (pe_op op_mulG (pe_slice (sl_anyK (K := K) rfl) (pv 14) po_none (po_some pe_int)) pe_int) pa_nil)))) (pe_lst (pa_cons pe_int (pa_cons pe_str pa_nil))) (nomark _))))) (pss_one (ps_ret (by exact pe_bl))) pss_nil) (pss_cons (ps_if (PW.pt (pw_or (pt_cmpR (op_neK (K := K) rfl hr.units) (pe_callG (by exact hg) (ok__law_moved T) (hr.mono (by first | decide | exact Nat.le_refl _ | omega | (simp only [Nat.add_eq]; omega))) rfl T.g__law_moved T.F__law_moved.kp T.b__law_moved .nil (fun σ => passAt (takes_of rfl rfl rfl rfl) σ) (by exact (pa_cons (pv 4) (pa_cons (pe_lst pa_nil) pa_nil)))) (pe_lst (pa_cons pe_int (pa_cons pe_str pa_nil))) (nomark _)) (pw_or1 (pt_cmpR (op_neK (K := K) rfl hr.units) (pe_callG (by exact hg) (ok__law_moved T) (hr.mono (by first | decide | exact Nat.le_refl _ | omega | (simp only [Nat.add_eq]; omega))) rfl T.g__law_moved T.F__law_moved.kp T.b__law_moved .nil (fun σ => passAt (takes_of rfl rfl rfl rfl) σ) (by exact (pa_cons (pv 4) (pa_cons (pe_callG (by exact hg) (ok__law_rid T) (hr.mono (by first | decide | exact Nat.le_refl _ | omega | (simp only [Nat.add_eq]; omega))) rfl T.g__law_rid T.F__law_rid.kp T.b__law_rid .nil (fun σ => passAt (takes_of rfl rfl rfl rfl) σ) (by exact (pa_cons (pv 1) pa_nil))) pa_nil)))) (pe_lst (pa_cons pe_int (pa_cons pe_str pa_nil))) (nomark _))))) (pss_one (ps_ret (by exact pe_bl))) pss_nil) (pss_cons (ps_if (PW.pt (pw_and (pt_cmpR op_gt (pv 3) pe_int (nomark _)) (pw_and1 (pt_cmpR (op_neK (K := K) rfl hr.units) (pe_callG (by exact hg) (ok__law_moved T) (hr.mono (by first | decide | exact Nat.le_refl _ | omega | (simp only [Nat.add_eq]; omega))) rfl T.g__law_moved T.F__law_moved.kp T.b__law_moved .nil (fun σ => passAt (takes_of rfl rfl rfl rfl) σ) (by exact (pa_cons (pv 4) (pa_cons (pe_lst (pa_cons pe_int (pa_cons pe_int (pa_cons pe_int (pa_cons pe_int (pa_cons pe_int pa_nil)))))) pa_nil)))) (pe_lst (pa_cons pe_int (pa_cons pe_str pa_nil))) (nomark _))))) (pss_one (ps_ret (by exact pe_bl))) pss_nil) (pss_one (ps_ret (by exact (pe_callG (by exact hg) (ok__law_same T) (hr.mono (by first | decide | exact Nat.le_refl _ | omega | (simp only [Nat.add_eq]; omega))) rfl T.g__law_same T.F__law_same.kp T.b__law_same .nil (fun σ => passAt (takes_of rfl rfl rfl rfl) σ) (by exact (pa_cons (pv 4) (pa_cons (pv 2) pa_nil))))))))))))))))))))))))))))))), ?_⟩
    refine law_ok (Z := Zo K A) (X := fun cls d _ H => E cls d H) (n := 15) (i := 1) (m := m_law) h rfl (by decide) (fun p c cells => ?_) hm
    have hJ : HandJ (⟨Zo K A, fun h => [(p, hHO c h)], fun cls d _ H => E cls d H⟩ : Jc Hd) p c := ⟨[], [], fun _ => rfl⟩
    exact sv_rho (ρ := [.U, .A p (hF c cells), .U, .U, .U, .U, .U, .U, .U, .U, .U, .U, .U, .U, .U, .U]) rfl (sv_seq (e := fun (v_picture_here_1 : List D) => ([.U, .A p (hF c cells), .O v_picture_here_1, .U, .U, .U, .U, .U, .U, .U, .U, .U, .U, .U, .U, .U] : Dm.Env)) (sv_asgL (el_callD (dds := []) hJ rfl (ea_cons ev_int (ea_cons (ev_op o2_add (Ev.x ev_int) (Ev.x (ev_callD (dds := []) hJ rfl (ea_cons ev_int ea_nil)))) ea_nil))) wkU (hi := Nat.le_of_ble_eq_true rfl)) (fun v_picture_here_1 => (sv_seq (e := fun (s19 : List D) => ([.U, .A p (hF c cells), .O s19, .U, .U, .U, .U, .U, .U, .U, .U, .U, .U, .U, .U, .U] : Dm.Env)) (sv_if (et_test (ev_op o2_eq (Ev.x (ev_callD (dds := []) hJ rfl (ea_cons ev_int ea_nil))) (Ev.x ev_int))) wkU (sv_seq (e := fun (es37 : List D) => ([.U, .A p (hF c cells), .O es37, .U, .U, .U, .U, .U, .U, .U, .U, .U, .U, .U, .U, .U] : Dm.Env)) (sv_setI (i := 2) rfl (ev_op o2_add (Ev.x (ev_op o2_ix (ex_own (i := 2) (ds := v_picture_here_1) rfl) (Ev.x ev_int))) (Ev.x (ev_op o2_mul (Ev.x (ev_new (el_lst (ea_cons ev_int ea_nil)))) (Ev.x (ev_op o2_sub (Ev.x ev_int) (Ev.x (ev_b1 o1_len (Ev.x (ev_op o2_ix (ex_own (i := 2) (ds := v_picture_here_1) rfl) (Ev.x ev_int)))))))))) ev_int wkU) (fun es37 => (sv_seq (e := fun (es63 : List D) => ([.U, .A p (hF c cells), .O es63, .U, .U, .U, .U, .U, .U, .U, .U, .U, .U, .U, .U, .U] : Dm.Env)) (sv_setI (i := 2) rfl (ev_op o2_add (Ev.x (ev_op o2_ix (ex_own (i := 2) (ds := es37) rfl) (Ev.x ev_int))) (Ev.x (ev_new (el_lst (ea_cons (ev_tup (ea_cons ev_int (ea_cons ev_int ea_nil))) (ea_cons (ev_tup (ea_cons (ev_callD (dds := []) hJ rfl (ea_cons ev_int ea_nil)) (ea_cons ev_int ea_nil))) ea_nil)))))) ev_int wkU) (fun es63 => (sv_to (g := fun _ => es63) sv_next (fun _ => (Wk.keep (Wk.keep (Wk.keep (Wk.keep (Wk.keep (Wk.keep (Wk.keep (Wk.keep (Wk.keep (Wk.keep (Wk.keep (Wk.keep (Wk.keep (Wk.keep (Wk.keep (Wk.keep Wk.nil)))))))))))))))))))))) (sv_to (g := fun _ => v_picture_here_1) sv_next (fun _ => (Wk.keep (Wk.keep (Wk.keep (Wk.keep (Wk.keep (Wk.keep (Wk.keep (Wk.keep (Wk.keep (Wk.keep (Wk.keep (Wk.keep (Wk.keep (Wk.keep (Wk.keep (Wk.keep Wk.nil))))))))))))))))))) (fun s19 => (sv_seq (e := fun (v_many_64 : D) => ([.U, .A p (hF c cells), .O s19, .P v_many_64, .U, .U, .U, .U, .U, .U, .U, .U, .U, .U, .U, .U] : Dm.Env)) (sv_asg (ev_b1 o1_len (Ev.x (ev_op o2_ix (ex_own (i := 2) (ds := s19) rfl) (Ev.x ev_int)))) wkU) (fun v_many_64 => (sv_frz (i := 2) (ds := s19) rfl <| (sv_seq (e := fun (v_told_69 : D) => ([.U, .A p (hF c cells), .P (.lst s19), .P v_many_64, .P v_told_69, .U, .U, .U, .U, .U, .U, .U, .U, .U, .U, .U] : Dm.Env)) (sv_asg (ev_call (dds := []) (ea_cons (ev_var (i := 2) (d := (.lst s19)) rfl) ea_nil)) wkU) (fun v_told_69 => (sv_seq (e := fun (v_near_here_73 : D) => ([.U, .A p (hF c cells), .P (.lst s19), .P v_many_64, .P v_told_69, .P v_near_here_73, .U, .U, .U, .U, .U, .U, .U, .U, .U, .U] : Dm.Env)) (sv_asg (ev_call (dds := []) (ea_cons (ev_var (i := 3) (d := v_many_64) rfl) (ea_cons (ev_call (dds := []) (ea_cons (ev_op o2_ix (Ev.x (ev_var (i := 2) (d := (.lst s19)) rfl)) (Ev.x ev_int)) ea_nil)) ea_nil))) wkU) (fun v_near_here_73 => (sv_frD (e := fun (s97 : Unit) => ([.U, .A p (hF c cells), .P (.lst s19), .P v_many_64, .P v_told_69, .P v_near_here_73, .U, .U, .U, .U, .U, .U, .U, .U, .U, .U] : Dm.Env)) (sv_wk (Wk.keep (Wk.keep (Wk.keep (Wk.keep (Wk.keep (Wk.keep (Wk.keep (Wk.keep (Wk.keep (Wk.keep (Wk.keep (Wk.keep (Wk.keep (Wk.keep (Wk.keep (Wk.keep Wk.nil)))))))))))))))) (sv_forF (e := fun (s97 : Unit) => ([.U, .A p (hF c cells), .P (.lst s19), .P v_many_64, .P v_told_69, .P v_near_here_73, .U, .U, .U, .U, .U, .U, .U, .U, .U, .U] : Dm.Env)) () (ei_sq (ev_op o2_add (Ev.x (ev_new (el_listRg (ev_b2 o2_min (Ev.x (ev_var (i := 3) (d := v_many_64) rfl)) (Ev.x ev_int))))) (Ev.x (ev_new (el_lst (ea_cons (ev_op o2_sub (Ev.x (ev_var (i := 3) (d := v_many_64) rfl)) (Ev.x ev_int)) ea_nil)))))) wkU (tg_name 6) (fun t98 s97 => (sv_seq (e := fun (v_found_99 : D) => ([.U, .A p (hF c cells), .P (.lst s19), .P v_many_64, .P v_told_69, .P v_near_here_73, .P t98, .P v_found_99, .U, .U, .U, .U, .U, .U, .U, .U] : Dm.Env)) (sv_asg (ev_call (dds := []) (ea_cons (ev_var (i := 4) (d := v_told_69) rfl) (ea_cons (ev_var (i := 6) (d := t98) rfl) ea_nil))) wkU) (fun v_found_99 => (sv_if (et_or (et_test (ev_op o2_ne (Ev.x (ev_var (i := 7) (d := v_found_99) rfl)) (Ev.x (ev_b1 o1_tuple (Ev.x (ev_new (el_sorted (K := K) (Ev.x (ev_op o2_ix (Ev.x (ev_var (i := 5) (d := v_near_here_73) rfl)) (Ev.x (ev_var (i := 6) (d := t98) rfl))))))))))) (et_or (et_not (et_tru (Ev.x (ev_call (dds := []) (ea_cons (ev_var (i := 7) (d := v_found_99) rfl) ea_nil))))) (et_test (ev_op o2_ne (Ev.x (ev_call (dds := []) (ea_cons (ev_var (i := 4) (d := v_told_69) rfl) (ea_cons (ev_var (i := 6) (d := t98) rfl) ea_nil)))) (Ev.x (ev_var (i := 6) (d := t98) rfl)))))) wkU (sv_to (g := Fl.rt) (sv_ret ev_bl wkU) (fun _ => rfl)) (sv_to (g := fun _ => Fl.nx ()) sv_next (fun _ => (Wk.keep (Wk.keep (Wk.keep (Wk.keep (Wk.keep (Wk.keep (Wk.drop (Wk.drop (Wk.keep (Wk.keep (Wk.keep (Wk.keep (Wk.keep (Wk.keep (Wk.keep (Wk.keep Wk.nil)))))))))))))))))))))))) (fun s97 => (sv_frD (e := fun (s146 : Unit) => ([.U, .A p (hF c cells), .P (.lst s19), .P v_many_64, .P v_told_69, .P v_near_here_73, .U, .U, .U, .U, .U, .U, .U, .U, .U, .U] : Dm.Env)) (sv_wk (Wk.keep (Wk.keep (Wk.keep (Wk.keep (Wk.keep (Wk.keep (Wk.keep (Wk.keep (Wk.keep (Wk.keep (Wk.keep (Wk.keep (Wk.keep (Wk.keep (Wk.keep (Wk.keep Wk.nil)))))))))))))))) (sv_forF (e := fun (s146 : Unit) => ([.U, .A p (hF c cells), .P (.lst s19), .P v_many_64, .P v_told_69, .P v_near_here_73, .U, .U, .U, .U, .U, .U, .U, .U, .U, .U] : Dm.Env)) () (ei_sq (ev_new (el_lst (ea_cons (ev_var (i := 3) (d := v_many_64) rfl) (ea_cons (ev_neg ev_int) (ea_cons ev_bl (ea_cons ev_non (ea_cons (ev_callD (dds := []) hJ rfl (ea_cons (ev_var (i := 3) (d := v_many_64) rfl) ea_nil)) ea_nil)))))))) wkU (tg_name 6) (fun t147 s146 => (sv_if (et_or (et_test (ev_op o2_ne (Ev.x (ev_call (dds := []) (ea_cons (ev_var (i := 4) (d := v_told_69) rfl) (ea_cons (ev_var (i := 6) (d := t147) rfl) ea_nil)))) (Ev.x (ev_new (el_lst (ea_cons ev_str (ea_cons (ev_var (i := 6) (d := t147) rfl) ea_nil))))))) (et_test (ev_op o2_ne (Ev.x (ev_call (dds := []) (ea_cons (ev_var (i := 4) (d := v_told_69) rfl) (ea_cons (ev_var (i := 6) (d := t147) rfl) ea_nil)))) (Ev.x (ev_new (el_lst (ea_cons ev_str (ea_cons (ev_var (i := 6) (d := t147) rfl) ea_nil)))))))) wkU (sv_to (g := Fl.rt) (sv_ret ev_bl wkU) (fun _ => rfl)) (sv_to (g := fun _ => Fl.nx ()) sv_next (fun _ => (Wk.keep (Wk.keep (Wk.keep (Wk.keep (Wk.keep (Wk.keep (Wk.drop (Wk.keep (Wk.keep (Wk.keep (Wk.keep (Wk.keep (Wk.keep (Wk.keep (Wk.keep (Wk.keep Wk.nil)))))))))))))))))))))) (fun s146 => (sv_seq (e := fun (v_marks_here_178 : D) => ([.U, .A p (hF c cells), .P (.lst s19), .P v_many_64, .P v_told_69, .P v_near_here_73, .U, .U, .P v_marks_here_178, .U, .U, .U, .U, .U, .U, .U] : Dm.Env)) (sv_asg (ev_b1 o1_len (Ev.x (ev_op o2_ix (Ev.x (ev_var (i := 2) (d := (.lst s19)) rfl)) (Ev.x ev_int)))) wkU) (fun v_marks_here_178 => (sv_frD (e := fun (s205 : Unit) => ([.U, .A p (hF c cells), .P (.lst s19), .P v_many_64, .P v_told_69, .P v_near_here_73, .U, .U, .P v_marks_here_178, .U, .U, .U, .U, .U, .U, .U] : Dm.Env)) (sv_wk (Wk.keep (Wk.keep (Wk.keep (Wk.keep (Wk.keep (Wk.keep (Wk.keep (Wk.keep (Wk.keep (Wk.keep (Wk.keep (Wk.keep (Wk.keep (Wk.keep (Wk.keep (Wk.keep Wk.nil)))))))))))))))) (sv_forF (e := fun (s205 : Unit) => ([.U, .A p (hF c cells), .P (.lst s19), .P v_many_64, .P v_told_69, .P v_near_here_73, .U, .U, .P v_marks_here_178, .U, .U, .U, .U, .U, .U, .U] : Dm.Env)) () (ei_sq (ev_new (el_lst (ea_cons ev_int (ea_cons (ev_op o2_sub (Ev.x (ev_var (i := 8) (d := v_marks_here_178) rfl)) (Ev.x ev_int)) (ea_cons (ev_var (i := 8) (d := v_marks_here_178) rfl) (ea_cons (ev_neg ev_int) (ea_cons ev_bl (ea_cons ev_non (ea_cons (ev_callD (dds := []) hJ rfl (ea_cons (ev_var (i := 8) (d := v_marks_here_178) rfl) ea_nil)) ea_nil)))))))))) wkU (tg_name 9) (fun t206 s205 => (sv_seq (e := fun (v_good_207 : D) => ([.U, .A p (hF c cells), .P (.lst s19), .P v_many_64, .P v_told_69, .P v_near_here_73, .U, .U, .P v_marks_here_178, .P t206, .P v_good_207, .U, .U, .U, .U, .U] : Dm.Env)) (sv_asg (ev_andV (ev_isa .int (Ev.x (ev_var (i := 9) (d := t206) rfl))) (ev_andV (ev_notV (ev_isa .bool (Ev.x (ev_var (i := 9) (d := t206) rfl)))) (ev_chain o2_le o2_lt ev_int (ev_var (i := 9) (d := t206) rfl) (ev_var (i := 8) (d := v_marks_here_178) rfl)))) wkU) (fun v_good_207 => (sv_if (et_test (ev_op o2_ne (Ev.x (ev_call (dds := []) (ea_cons (ev_var (i := 8) (d := v_marks_here_178) rfl) (ea_cons (ev_var (i := 9) (d := t206) rfl) ea_nil)))) (Ev.x (ev_ifE (et_tru (Ev.x (ev_var (i := 10) (d := v_good_207) rfl))) (ev_var (i := 9) (d := t206) rfl) (ev_new (el_lst (ea_cons ev_str (ea_cons (ev_var (i := 9) (d := t206) rfl) ea_nil)))))))) wkU (sv_to (g := Fl.rt) (sv_ret ev_bl wkU) (fun _ => rfl)) (sv_to (g := fun _ => Fl.nx ()) sv_next (fun _ => (Wk.keep (Wk.keep (Wk.keep (Wk.keep (Wk.keep (Wk.keep (Wk.keep (Wk.keep (Wk.keep (Wk.drop (Wk.drop (Wk.keep (Wk.keep (Wk.keep (Wk.keep (Wk.keep Wk.nil)))))))))))))))))))))))) (fun s205 => (sv_seq (e := fun (v_colours_237 : D) => ([.U, .A p (hF c cells), .P (.lst s19), .P v_many_64, .P v_told_69, .P v_near_here_73, .U, .U, .P v_marks_here_178, .U, .U, .P v_colours_237, .U, .U, .U, .U] : Dm.Env)) (sv_asg (ev_ifE (et_test (ev_op o2_lt (Ev.x (ev_var (i := 3) (d := v_many_64) rfl)) (Ev.x ev_int))) (ev_new (el_lc (ei_r1 (ea_cons (ev_var (i := 3) (d := v_many_64) rfl) ea_nil)) (fun _ _ => (tg_name 6)) (fun t244 _ _ => et_yes) (fun t244 _ _ => (ev_callD (dds := []) (HandJ.add hJ) rfl ea_nil)) (hO := (List.forall_mem_cons.2 ⟨rfl, (List.forall_mem_nil _)⟩)))) (ev_new (el_lc (ei_r1 (ea_cons (ev_var (i := 3) (d := v_many_64) rfl) ea_nil)) (fun _ _ => (tg_name 6)) (fun t252 _ _ => et_yes) (fun t252 _ _ => (ev_op o2_mod (Ev.x (ev_b1 o1_int (Ev.x (ev_var (i := 6) (d := t252) rfl)))) (Ev.x ev_int))) (hO := (List.forall_mem_cons.2 ⟨rfl, (List.forall_mem_nil _)⟩))))) wkU) (fun v_colours_237 => (sv_seq (e := fun (v_given_260 : List D) => ([.U, .A p (hF c cells), .P (.lst s19), .P v_many_64, .P v_told_69, .P v_near_here_73, .U, .U, .P v_marks_here_178, .U, .U, .P v_colours_237, .O v_given_260, .U, .U, .U] : Dm.Env)) (sv_asgL (el_list (Ev.x (ev_var (i := 11) (d := v_colours_237) rfl))) wkU (hi := Nat.le_of_ble_eq_true rfl)) (fun v_given_260 => (sv_seq (e := fun (v_found_262 : D) => ([.U, .A p (hF c cells), .P (.lst s19), .P v_many_64, .P v_told_69, .P v_near_here_73, .U, .P v_found_262, .P v_marks_here_178, .U, .U, .P v_colours_237, .O v_given_260, .U, .U, .U] : Dm.Env)) (sv_asg (ev_lend (i := 12) (ds := v_given_260) rfl (ev_call (dds := []) (ea_cons (ev_var (i := 4) (d := v_told_69) rfl) (ea_cons (ev_var (i := 12) (d := (.lnt v_given_260)) rfl) ea_nil)))) wkU) (fun v_found_262 => (sv_ifR (et_or (et_not (et_tru (Ev.x (ev_call (dds := []) (ea_cons (ev_var (i := 7) (d := v_found_262) rfl) (ea_cons (ev_new (el_lst (ea_cons (ev_var (i := 11) (d := v_colours_237) rfl) (ea_cons (ev_op o2_ix (Ev.x (ev_var (i := 2) (d := (.lst s19)) rfl)) (Ev.x ev_int)) (ea_cons (ev_op o2_ix (Ev.x (ev_var (i := 2) (d := (.lst s19)) rfl)) (Ev.x ev_int)) ea_nil))))) ea_nil)))))) (et_test (ev_op o2_ne (ex_own (i := 12) (ds := v_given_260) rfl) (Ev.x (ev_var (i := 11) (d := v_colours_237) rfl))))) wkU (sv_ret ev_bl wkU) (sv_skip (sv_seq (e := fun (v_at_292 : D) => ([.U, .A p (hF c cells), .P (.lst s19), .P v_many_64, .P v_told_69, .P v_near_here_73, .U, .P v_found_262, .P v_marks_here_178, .U, .U, .P v_colours_237, .O v_given_260, .P v_at_292, .U, .U] : Dm.Env)) (sv_asg (ev_callD (dds := []) hJ rfl (ea_cons (ev_var (i := 3) (d := v_many_64) rfl) ea_nil)) wkU) (fun v_at_292 => (sv_seq (e := fun (es301 : List D) => ([.U, .A p (hF c cells), .P (.lst s19), .P v_many_64, .P v_told_69, .P v_near_here_73, .U, .P v_found_262, .P v_marks_here_178, .U, .U, .P v_colours_237, .O es301, .P v_at_292, .U, .U] : Dm.Env)) (sv_setI (i := 12) rfl (ev_callD (dds := []) hJ rfl (ea_cons ev_int ea_nil)) (ev_var (i := 13) (d := v_at_292) rfl) wkU) (fun es301 => (sv_ifR (et_or (et_test (ev_op o2_ne (Ev.x (ev_lend (i := 12) (ds := es301) rfl (ev_call (dds := []) (ea_cons (ev_var (i := 4) (d := v_told_69) rfl) (ea_cons (ev_var (i := 12) (d := (.lnt es301)) rfl) ea_nil))))) (Ev.x (ev_new (el_lst (ea_cons (ev_var (i := 13) (d := v_at_292) rfl) (ea_cons ev_str ea_nil))))))) (et_not (et_tru (Ev.x (ev_call (dds := []) (ea_cons (ev_var (i := 7) (d := v_found_262) rfl) (ea_cons (ev_new (el_lst (ea_cons (ev_var (i := 11) (d := v_colours_237) rfl) (ea_cons (ev_op o2_ix (Ev.x (ev_var (i := 2) (d := (.lst s19)) rfl)) (Ev.x ev_int)) (ea_cons (ev_op o2_ix (Ev.x (ev_var (i := 2) (d := (.lst s19)) rfl)) (Ev.x ev_int)) ea_nil))))) ea_nil))))))) wkU (sv_ret ev_bl wkU) (sv_skip (sv_ifR (et_or (et_test (ev_op o2_ne (Ev.x (ev_call (dds := []) (ea_cons (ev_var (i := 4) (d := v_told_69) rfl) (ea_cons (ev_sl (Ev.x (ev_var (i := 11) (d := v_colours_237) rfl)) (eo_some ev_int) eo_none) ea_nil)))) (Ev.x (ev_new (el_lst (ea_cons ev_int (ea_cons ev_str ea_nil))))))) (et_or (et_test (ev_op o2_ne (Ev.x (ev_call (dds := []) (ea_cons (ev_var (i := 4) (d := v_told_69) rfl) (ea_cons (ev_op o2_add (Ev.x (ev_var (i := 11) (d := v_colours_237) rfl)) (Ev.x (ev_new (el_lst (ea_cons ev_int ea_nil))))) ea_nil)))) (Ev.x (ev_new (el_lst (ea_cons ev_int (ea_cons ev_str ea_nil))))))) (et_test (ev_op o2_ne (Ev.x (ev_call (dds := []) (ea_cons (ev_var (i := 4) (d := v_told_69) rfl) (ea_cons (ev_callD (dds := []) hJ rfl ea_nil) ea_nil)))) (Ev.x (ev_new (el_lst (ea_cons ev_int (ea_cons ev_str ea_nil))))))))) wkU (sv_ret ev_bl wkU) (sv_skip (sv_seq (e := fun (v_others_393 : D) => ([.U, .A p (hF c cells), .P (.lst s19), .P v_many_64, .P v_told_69, .P v_near_here_73, .U, .P v_found_262, .P v_marks_here_178, .U, .U, .P v_colours_237, .O es301, .P v_at_292, .P v_others_393, .U] : Dm.Env)) (sv_asg (ev_callD (dds := []) hJ rfl (ea_cons (ev_var (i := 3) (d := v_many_64) rfl) (ea_cons (ev_op o2_add (Ev.x ev_int) (Ev.x (ev_callD (dds := []) hJ rfl (ea_cons ev_int ea_nil)))) ea_nil))) wkU) (fun v_others_393 => (sv_ifR (et_not (et_tru (Ev.x (ev_call (dds := []) (ea_cons (ev_call (dds := []) (ea_cons (ev_var (i := 4) (d := v_told_69) rfl) (ea_cons (ev_b1 o1_tuple (Ev.x (ev_var (i := 14) (d := v_others_393) rfl))) ea_nil))) (ea_cons (ev_new (el_lst (ea_cons (ev_op o2_ix (Ev.x (ev_var (i := 2) (d := (.lst s19)) rfl)) (Ev.x ev_int)) (ea_cons (ev_op o2_ix (Ev.x (ev_var (i := 2) (d := (.lst s19)) rfl)) (Ev.x ev_int)) (ea_cons (ev_var (i := 14) (d := v_others_393) rfl) ea_nil))))) ea_nil)))))) wkU (sv_ret ev_bl wkU) (sv_skip (sv_seq (e := fun (v_at_430 : D) => ([.U, .A p (hF c cells), .P (.lst s19), .P v_many_64, .P v_told_69, .P v_near_here_73, .U, .P v_found_262, .P v_marks_here_178, .U, .U, .P v_colours_237, .O es301, .P v_at_430, .P v_others_393, .U] : Dm.Env)) (sv_asg (ev_callD (dds := []) hJ rfl (ea_cons (ev_b1 o1_len (Ev.x (ev_var (i := 14) (d := v_others_393) rfl))) ea_nil)) wkU) (fun v_at_430 => (sv_seq (e := fun (v_spoilt_435 : D) => ([.U, .A p (hF c cells), .P (.lst s19), .P v_many_64, .P v_told_69, .P v_near_here_73, .U, .P v_found_262, .P v_marks_here_178, .U, .U, .P v_colours_237, .O es301, .P v_at_430, .P v_others_393, .P v_spoilt_435] : Dm.Env)) (sv_asg (ev_op o2_add (Ev.x (ev_op o2_add (Ev.x (ev_sl (Ev.x (ev_var (i := 14) (d := v_others_393) rfl)) eo_none (eo_some (ev_var (i := 13) (d := v_at_430) rfl)))) (Ev.x (ev_new (el_lst (ea_cons (ev_callD (dds := []) hJ rfl (ea_cons (ev_var (i := 3) (d := v_many_64) rfl) ea_nil)) ea_nil)))))) (Ev.x (ev_sl (Ev.x (ev_var (i := 14) (d := v_others_393) rfl)) (eo_some (ev_op o2_add (Ev.x (ev_var (i := 13) (d := v_at_430) rfl)) (Ev.x ev_int))) eo_none))) wkU) (fun v_spoilt_435 => (sv_ifR (et_or (et_test (ev_op o2_ne (Ev.x (ev_call (dds := []) (ea_cons (ev_var (i := 4) (d := v_told_69) rfl) (ea_cons (ev_var (i := 15) (d := v_spoilt_435) rfl) ea_nil)))) (Ev.x (ev_new (el_lst (ea_cons (ev_var (i := 13) (d := v_at_430) rfl) (ea_cons ev_str ea_nil))))))) (et_test (ev_op o2_ne (Ev.x (ev_call (dds := []) (ea_cons (ev_var (i := 4) (d := v_told_69) rfl) (ea_cons (ev_op o2_mul (Ev.x (ev_sl (Ev.x (ev_var (i := 14) (d := v_others_393) rfl)) eo_none (eo_some ev_int))) (Ev.x ev_int)) ea_nil)))) (Ev.x (ev_new (el_lst (ea_cons ev_int (ea_cons ev_str ea_nil)))))))) wkU (sv_ret ev_bl wkU) (sv_skip (sv_ifR (et_or (et_test (ev_op o2_ne (Ev.x (ev_call (dds := []) (ea_cons (ev_var (i := 4) (d := v_told_69) rfl) (ea_cons (ev_new (el_lst ea_nil)) ea_nil)))) (Ev.x (ev_new (el_lst (ea_cons ev_int (ea_cons ev_str ea_nil))))))) (et_test (ev_op o2_ne (Ev.x (ev_call (dds := []) (ea_cons (ev_var (i := 4) (d := v_told_69) rfl) (ea_cons (ev_callD (dds := []) hJ rfl ea_nil) ea_nil)))) (Ev.x (ev_new (el_lst (ea_cons ev_int (ea_cons ev_str ea_nil)))))))) wkU (sv_ret ev_bl wkU) (sv_skip (sv_ifR (et_and (et_test (ev_op o2_gt (Ev.x (ev_var (i := 3) (d := v_many_64) rfl)) (Ev.x ev_int))) (et_test (ev_op o2_ne (Ev.x (ev_call (dds := []) (ea_cons (ev_var (i := 4) (d := v_told_69) rfl) (ea_cons (ev_new (el_lst (ea_cons ev_int (ea_cons ev_int (ea_cons ev_int (ea_cons ev_int (ea_cons ev_int ea_nil))))))) ea_nil)))) (Ev.x (ev_new (el_lst (ea_cons ev_int (ea_cons ev_str ea_nil)))))))) wkU (sv_ret ev_bl wkU) (sv_skip (sv_ret (ev_call (dds := []) (ea_cons (ev_var (i := 4) (d := v_told_69) rfl) (ea_cons (ev_var (i := 2) (d := (.lst s19)) rfl) ea_nil))) wkU))))))))))))))))))))))))))))))))))))))))))))))))))
end
end G_spreadhues_k03_whole_neighbours_and_new

set_option Elab.async false
set_option linter.all false
set_option maxRecDepth 100000
set_option maxHeartbeats 2000000
namespace G_spreadhues_k03_whole_neighbours_and_new
open PySem PySem.Spec PyProof.Rows L2 Dm
theorem mixed_ok (S : Type) {a t : Int} (h0 : 0 ≤ a) (h1 : a < 2 ^ 31) (t0 : 0 ≤ t) (t1 : t < 1000) : ∃ r, 0 ≤ r ∧ m__law_mixed S [.int a, .int t] = ret (.int r) := by
  obtain ⟨o0, o1⟩ := fmod_in (i := a * 69621 + t * 7907 + 40503) (j := 2147483647) (by decide)
  obtain ⟨w0, w1⟩ := fmod_in (i := (a * 69621 + t * 7907 + 40503).fmod 2147483647 * (a * 69621 + t * 7907 + 40503).fmod 2147483647 + t * 104723 + (a * 69621 + t * 7907 + 40503).fmod 2147483647 / 131) (j := 2147483629) (by decide)
  generalize ho : (a * 69621 + t * 7907 + 40503).fmod 2147483647 = o at *
  generalize hw : (o * o + t * 104723 + o / 131).fmod 2147483629 = w at *
  obtain ⟨z0, z1⟩ := fmod_in (i := w * 48271 + o / 7) (j := 2147483579) (by decide)
  refine ⟨(w * 48271 + o / 7).fmod 2147483579 / 32, by omega, ?_⟩
  unfold m__law_mixed
  funext s
  simp only [bnd_at, go_ok, ret_at, lft_at, oAdd_int, oIntOf_int, mul_small (i := a) (j := 69621) (by omega) (by decide), mul_small (i := t) (j := 7907) (by omega) (by decide), mod_pos (j := 2147483647) (by decide), ho,
    mul_small (i := o) (j := o) (by omega) (by omega), mul_small (i := t) (j := 104723) (by omega) (by decide), div_pos (j := 131) (by decide) (by decide), mod_pos (j := 2147483629) (by decide), hw,
    mul_small (i := w) (j := 48271) (by omega) (by decide), div_pos (j := 7) (by decide) (by decide), mod_pos (j := 2147483579) (by decide), div_pos (j := 32) (by decide) (by decide)]
theorem take_ok {cells : List Int} {n : Int} (hn : 0 < n) (hn' : n < 2 ^ 99) (hc : cells.length ≤ 63) : Tk cells (m__law_take cells [.int n]) (fun d => ∃ k, d = .int k ∧ 0 ≤ k ∧ k < n) := by
  rintro ⟨pos, rest, total⟩ ⟨p0, p1, r0⟩
  dsimp only at p0 p1 r0
  have hnn : n.natAbs < 2 ^ 100 := by omega
  unfold m__law_take
  have late : ∀ p' : Int, 0 ≤ p' → p' ≤ cells.length → ∀ r' : Int, r' = 0 → ∃ a s', (frD (fun s10 : Unit => bnd (bnd (bnd (hget cells 2) fun x35 => bnd (ret (.int 0)) fun x36 => lft (oGt x35 x36)) fun x37 => lft (asB x37)) fun b38 => if b38 = true then bnd (hget cells 2) fun v_rest_39 => bnd (bnd (bnd (bnd (ret v_rest_39) fun x40 => lft (oIntOf x40)) fun x41 => bnd (ret (.int n)) fun x42 => lft (oDiv x41 x42)) fun x43 => hput 2 x43) fun _ => bnd (bnd (ret v_rest_39) fun x44 => lft (oIntOf x44)) fun x45 => bnd (ret (.int n)) fun x46 => lft (oMod x45 x46) else bnd (bnd (bnd (bnd (bnd (hget cells 3) fun x47 => bnd (ret (.int 1)) fun x48 => lft (oAdd x47 x48)) fun x49 => lft (oIntOf x49)) fun x50 => bnd (ret (.int 2147483587)) fun x51 => lft (oMod x50 x51)) fun x52 => hput 3 x52) fun _ => bnd (bnd (bnd (bnd (hget cells 3) fun x55 => bnd (bnd (hget cells 1) fun x53 => bnd (ret []) fun ds54 => ret (x53 :: ds54)) fun ds56 => ret (x55 :: ds56)) fun ds57 => m__law_mixed Hd (ds57 ++ [])) fun x58 => lft (oIntOf x58)) fun x59 => bnd (ret (.int n)) fun x60 => lft (oMod x59 x60)) (.nx ()) (⟨p', r', total⟩ : Hd)) = .ok a s' ∧ Hok cells s' ∧ ∃ k, a = .int k ∧ 0 ≤ k ∧ k < n := by
    intro p' q0 q1 r' hr'
    subst hr'
    obtain ⟨g0, g1⟩ := fmod_in (i := total + 1) (j := 2147483587) (by decide)
    obtain ⟨r, rp, hr⟩ := mixed_ok Hd (a := (total + 1).fmod 2147483587) (t := p') g0 (by omega) q0 (by omega)
    obtain ⟨v0, v1⟩ := fmod_in (i := r) hn
    refine ⟨.int (r.fmod n), ⟨p', 0, (total + 1).fmod 2147483587⟩, ?_, ⟨q0, q1, Int.le_refl _⟩, _, rfl, v0, v1⟩
    have c4 : decide ((0 : Int) < 0) = false := by decide
    simp only [bnd_at, go_ok, ret_at, lft_at, get0_at, get1_at, get2_at, get3_at, put1_at, put2_at, put3_at, oEq_int, asB_bl, oLen_lst, List.length_map, oLt_int, oGt_int, oAdd_int, pow_18, oIntOf_int, mod_pos (j := 2147483647) (by decide), mod_pos (j := 2147483587) (by decide), mod_pos hn, div_pos2 hn hnn, decide_true, decide_false, ite_t, ite_f, if_true, if_false, Bool.false_eq_true, List.append_nil, frD_rtS, frD_nxS, c4, hr]
  have rest' : ∀ p' : Int, 0 ≤ p' → p' ≤ cells.length → ∀ r' : Int, 0 < r' → ∃ a s', (frD (fun s10 : Unit => bnd (bnd (bnd (hget cells 2) fun x35 => bnd (ret (.int 0)) fun x36 => lft (oGt x35 x36)) fun x37 => lft (asB x37)) fun b38 => if b38 = true then bnd (hget cells 2) fun v_rest_39 => bnd (bnd (bnd (bnd (ret v_rest_39) fun x40 => lft (oIntOf x40)) fun x41 => bnd (ret (.int n)) fun x42 => lft (oDiv x41 x42)) fun x43 => hput 2 x43) fun _ => bnd (bnd (ret v_rest_39) fun x44 => lft (oIntOf x44)) fun x45 => bnd (ret (.int n)) fun x46 => lft (oMod x45 x46) else bnd (bnd (bnd (bnd (bnd (hget cells 3) fun x47 => bnd (ret (.int 1)) fun x48 => lft (oAdd x47 x48)) fun x49 => lft (oIntOf x49)) fun x50 => bnd (ret (.int 2147483587)) fun x51 => lft (oMod x50 x51)) fun x52 => hput 3 x52) fun _ => bnd (bnd (bnd (bnd (hget cells 3) fun x55 => bnd (bnd (hget cells 1) fun x53 => bnd (ret []) fun ds54 => ret (x53 :: ds54)) fun ds56 => ret (x55 :: ds56)) fun ds57 => m__law_mixed Hd (ds57 ++ [])) fun x58 => lft (oIntOf x58)) fun x59 => bnd (ret (.int n)) fun x60 => lft (oMod x59 x60)) (.nx ()) (⟨p', r', total⟩ : Hd)) = .ok a s' ∧ Hok cells s' ∧ ∃ k, a = .int k ∧ 0 ≤ k ∧ k < n := by
    intro p' q0 q1 r' hr'
    obtain ⟨v0, v1⟩ := fmod_in (i := r') hn
    refine ⟨.int (r'.fmod n), ⟨p', r' / n, total⟩, ?_, ⟨q0, q1, Int.ediv_nonneg (by omega) (by omega)⟩, _, rfl, v0, v1⟩
    have c4 : decide ((0 : Int) < r') = true := decide_eq_true hr'
    simp only [bnd_at, go_ok, ret_at, lft_at, get0_at, get1_at, get2_at, get3_at, put1_at, put2_at, put3_at, oEq_int, asB_bl, oLen_lst, List.length_map, oLt_int, oGt_int, oAdd_int, pow_18, oIntOf_int, mod_pos (j := 2147483647) (by decide), mod_pos (j := 2147483587) (by decide), mod_pos hn, div_pos2 hn hnn, decide_true, decide_false, ite_t, ite_f, if_true, if_false, Bool.false_eq_true, List.append_nil, frD_rtS, frD_nxS, c4]
  by_cases c1 : rest = 0
  · subst c1
    by_cases c2 : pos < cells.length
    · obtain ⟨c, hcx⟩ := atI_map p0 c2
      by_cases c3 : c < 1000000000000000000
      · obtain ⟨g0, g1⟩ := fmod_in (i := c) (j := 2147483647) (by decide)
        obtain ⟨r, rp, hr⟩ := mixed_ok Hd (a := c.fmod 2147483647) (t := pos + 1) g0 (by omega) (by omega) (by omega)
        obtain ⟨v0, v1⟩ := fmod_in (i := r) hn
        refine ⟨.int (r.fmod n), ⟨pos + 1, 0, total⟩, ?_, ⟨by show 0 ≤ pos + 1; omega, by show pos + 1 ≤ _; omega, Int.le_refl _⟩, _, rfl, v0, v1⟩
        simp only [bnd_at, go_ok, ret_at, lft_at, get0_at, get1_at, get2_at, get3_at, put1_at, put2_at, put3_at, oEq_int, asB_bl, oLen_lst, List.length_map, oLt_int, oGt_int, oAdd_int, pow_18, oIntOf_int, mod_pos (j := 2147483647) (by decide), mod_pos (j := 2147483587) (by decide), mod_pos hn, div_pos2 hn hnn, decide_true, decide_false, ite_t, ite_f, if_true, if_false, Bool.false_eq_true, List.append_nil, frD_rtS, frD_nxS, hcx, decide_eq_true c2, decide_eq_true c3, hr]
      · obtain ⟨a, s', e, h1, h2⟩ := rest' (pos + 1) (by omega) (by omega) c (by omega)
        refine ⟨a, s', ?_, h1, h2⟩
        rw [← e]
        simp only [bnd_at, go_ok, ret_at, lft_at, get0_at, get1_at, get2_at, get3_at, put1_at, put2_at, put3_at, oEq_int, asB_bl, oLen_lst, List.length_map, oLt_int, oGt_int, oAdd_int, pow_18, oIntOf_int, mod_pos (j := 2147483647) (by decide), mod_pos (j := 2147483587) (by decide), mod_pos hn, div_pos2 hn hnn, decide_true, decide_false, ite_t, ite_f, if_true, if_false, Bool.false_eq_true, List.append_nil, hcx, decide_eq_true c2, decide_eq_false c3]
    · obtain ⟨a, s', e, h1, h2⟩ := late pos p0 p1 0 rfl
      refine ⟨a, s', ?_, h1, h2⟩
      rw [← e]
      simp only [bnd_at, go_ok, ret_at, lft_at, get0_at, get1_at, get2_at, get3_at, put1_at, put2_at, put3_at, oEq_int, asB_bl, oLen_lst, List.length_map, oLt_int, oGt_int, oAdd_int, pow_18, oIntOf_int, mod_pos (j := 2147483647) (by decide), mod_pos (j := 2147483587) (by decide), mod_pos hn, div_pos2 hn hnn, decide_true, decide_false, ite_t, ite_f, if_true, if_false, Bool.false_eq_true, List.append_nil, decide_eq_false c2]
  · obtain ⟨a, s', e, h1, h2⟩ := rest' pos p0 p1 rest (by omega)
    refine ⟨a, s', ?_, h1, h2⟩
    rw [← e]
    simp only [bnd_at, go_ok, ret_at, lft_at, get0_at, get1_at, get2_at, get3_at, put1_at, put2_at, put3_at, oEq_int, asB_bl, oLen_lst, List.length_map, oLt_int, oGt_int, oAdd_int, pow_18, oIntOf_int, mod_pos (j := 2147483647) (by decide), mod_pos (j := 2147483587) (by decide), mod_pos hn, div_pos2 hn hnn, decide_true, decide_false, ite_t, ite_f, if_true, if_false, Bool.false_eq_true, List.append_nil, decide_eq_false c1]
/-- a whole number within bounds -/
def whl (d : D) (lo hi : Int) : Bool := match d with
  | .int k => decide (lo ≤ k) && decide (k ≤ hi)
  | _ => false
theorem whl_lt {k lo hi : Int} (h : k < lo) : whl (.int k) lo hi = false := by
  show (decide (lo ≤ k) && decide (k ≤ hi)) = false
  rw [decide_eq_false (by omega), Bool.false_and]
theorem whl_ge {k lo hi : Int} (h : ¬ k < lo) : whl (.int k) lo hi = decide (k ≤ hi) := by
  show (decide (lo ≤ k) && decide (k ≤ hi)) = _
  rw [decide_eq_true (by omega), Bool.true_and]
theorem whole_ok (S : Type) {d : D} {lo hi : Int} (h : Pl d) : m_is_whole S [d, .int lo, .int hi] = ret (.bl (whl d lo hi)) := by
  unfold m_is_whole
  simp only [bnd_ret, bnd_bnd, lft_some, List.append_nil]
  cases d with
  | obj c fs => exact h.elim
  | int k =>
    have e1 : oIsA .int (.int k) = some (.bl true) := rfl
    have e2 : oIsA .bool (.int k) = some (.bl false) := rfl
    have e3 : oNis (.int lo) .non = some (.bl true) := rfl
    have e4 : oIs (.int hi) .non = some (.bl false) := rfl
    simp only [e1, e2, e3, e4, lft_some, bnd_ret, tru_bl, asB_bl, Bool.not_true, Bool.false_eq_true, if_false, if_true, oLt_int, oLe_int]
    by_cases c : k < lo
    · rw [decide_eq_true c, if_pos rfl, whl_lt c]
    · rw [decide_eq_false c, if_neg Bool.false_ne_true, whl_ge c]
  | bl b =>
    have e1 : oIsA .int (.bl b) = some (.bl true) := rfl
    have e2 : oIsA .bool (.bl b) = some (.bl true) := rfl
    simp only [e1, e2, lft_some, bnd_ret, tru_bl, Bool.not_true, Bool.false_eq_true, if_false, if_true]
    rfl
  | non => rfl
  | str x => rfl
  | lst ds => rfl
  | tup ds => rfl
  | dct kvs => rfl
  | lnt ds => rfl
theorem isCol_whl (d : D) : isCol d = whl d 0 99 := by cases d <;> rfl
theorem colour_ok (S : Type) {d : D} (h : Pl d) : m_is_colour S [d] = ret (.bl (isCol d)) := by
  unfold m_is_colour
  simp only [bnd_ret, bnd_bnd, lft_some, List.append_nil, whole_ok S h, isCol_whl]
def isSq (d : D) : Bool := (items d).isSome
theorem sq_of {d : D} {l : List D} (h : items d = some l) : isSq d = true := by unfold isSq; rw [h]; rfl
theorem sq_no {d : D} (h : items d = none) : isSq d = false := by unfold isSq; rw [h]; rfl
theorem isas_sq {d : D} (h : Pl d) : oIsAs [.list, .tuple] d = some (.bl (isSq d)) := by
  cases d <;> first | rfl | exact h.elim
theorem sq_ok (S : Type) {d : D} (h : Pl d) : m_is_sequence S [d] = ret (.bl (isSq d)) := by
  unfold m_is_sequence
  simp only [bnd_ret, isas_sq h, lft_some]
def badC (x : D) : Option Unit := if isCol x = true then none else some ()
theorem wrong_ok (S : Type) {d : D} {ds : List D} (hd : items d = some ds) (h : ∀ x ∈ ds, Pl x) : m_wrong_colour S [d] = ret (match fstW badC 0 ds with | none => .non | some q => .int (q.1 : Nat)) := by
  unfold m_wrong_colour
  simp only [bnd_ret, bnd_bnd, lft_some, List.append_nil, hd, Option.map_some]
  rw [forF_fstW (w := badC) (g := fun n _ => .int (n : Nat)) (fun n x hx => ?_)]
  · cases fstW badC 0 ds <;> rfl
  · simp only [colour_ok S (h x hx), bnd_ret, tru_bl, lft_some]
    unfold badC
    cases isCol x <;> rfl
def isCp (d : D) : Bool := match items d with
  | some l => decide (l.length = 2)
  | none => false
theorem couple_ok (S : Type) {d : D} (h : Pl d) : m_is_couple S [d] = ret (.bl (isCp d)) := by
  unfold m_is_couple isCp
  simp only [bnd_ret, bnd_bnd, lft_some, List.append_nil, sq_ok S h, asB_bl]
  cases e : items d with
  | none =>
    rw [sq_no e, if_neg Bool.false_ne_true]
  | some l =>
    rw [sq_of e, if_pos rfl, len_ok e, lft_some, bnd_ret, oEq_int, lft_some]
    dsimp only
    congr 3
    exact propext ⟨fun h => by omega, fun h => by omega⟩
theorem cp_two {d : D} (h : isCp d = true) : ∃ a b, items d = some [a, b] := by
  unfold isCp at h
  cases e : items d with
  | none => rw [e] at h; cases h
  | some l =>
    rw [e] at h
    have h := of_decide_eq_true h
    match l, h with
    | [a, b], _ => exact ⟨a, b, rfl⟩
theorem cp_no {d : D} (h : isCp d = false) : ∀ a b, items d ≠ some [a, b] := fun a b e => by
  unfold isCp at h
  rw [e] at h
  cases h
theorem ix_two {d a b : D} (h : items d = some [a, b]) : oIx d (.int 0) = some a ∧ oIx d (.int 1) = some b := by
  cases d <;> first | (cases h; done) | (cases h; exact ⟨L2.atI_nat (j := 0) rfl, L2.atI_nat (j := 1) rfl⟩)
end G_spreadhues_k03_whole_neighbours_and_new

set_option Elab.async false
set_option linter.all false
set_option maxRecDepth 100000
set_option maxHeartbeats 2000000
namespace G_spreadhues_k03_whole_neighbours_and_new
open PySem PySem.Spec PyProof.Rows L2 Dm
/-! ### pictures -/
def pic (cs : List D) (ts : List IP) (ms : List Int) : D := .obj 3 [.tup cs, .tup (ts.map prD), .tup (ms.map D.int)]
theorem fld_c (cs : List D) (ts : List IP) (ms : List Int) : oFld 3 4 fnZ "colours" (pic cs ts ms) = some (.tup cs) := rfl
theorem fld_t (cs : List D) (ts : List IP) (ms : List Int) : oFld 3 4 fnZ "ties" (pic cs ts ms) = some (.tup (ts.map prD)) := rfl
theorem fld_m (cs : List D) (ts : List IP) (ms : List Int) : oFld 3 4 fnZ "marks" (pic cs ts ms) = some (.tup (ms.map D.int)) := rfl
theorem fld_i (x : D) : fld (fnZ 3) [x] "colours" = some x := rfl
theorem fld_i2 (x y : D) : fld (fnZ 3) [x, y] "colours" = some x := rfl
theorem len_pic (S : Type) {cs : List D} {ts : List IP} {ms : List Int} (h : cs.length < 1000) : lenU 3 m_Picture__len__ (pic cs ts ms) = (ret (.int (cs.length : Int)) : MS S D) := by
  have e : m_Picture__len__ S [pic cs ts ms] = ret (.int (cs.length : Int)) := by
    unfold m_Picture__len__
    simp only [bnd_ret, bnd_bnd, fld_c, lft_some]
    rfl
  have e2 : lenU 3 m_Picture__len__ (pic cs ts ms) = (lenM 3 m_Picture__len__ (pic cs ts ms) : MS S D) := rfl
  have e3 : lenM 3 m_Picture__len__ (pic cs ts ms) = (bnd (nex (m_Picture__len__ S [pic cs ts ms])) fun d => lft (natO d) : MS S D) := by
    unfold lenM pic
    dsimp only
    rw [if_pos rfl]
  rw [e2, e3, e, show nex (ret (D.int (cs.length : Int)) : MS S D) = ret (.int (cs.length : Int)) from rfl, bnd_ret]
  unfold natO
  dsimp only
  rw [if_pos ⟨by omega, by omega⟩, lft_some]
theorem okBP {n : Nat} (h : n < 1000) {w : Str} (hw : w.length < 1000) : okD_BadPicture [.int (n : Int), .str w] = true := by
  show (fmtD _ && fmtD _) = true
  first
    | (rw [fmt_nat h, show fmtD (.str w) = true from decide_eq_true hw]; rfl)
theorem okBP0 {w : Str} (hw : w.length < 1000) : okD_BadPicture [.int 0, .str w] = true := okBP (n := 0) (by decide) hw
/-- what is wrong with the cells' colours -/
def cellsF (l : List D) : Option (Nat × Str) := if 1 ≤ l.length ∧ l.length ≤ 700 then (fstW badC 0 l).map fun q => (q.1, "colour") else some (0, "cells")
theorem cells_no (S : Type) {d : D} (hp : Pl d) (hd : items d = none) : m__checked_cells S [d] = rse 0 [.str "cells", .int 0] := by
  unfold m__checked_cells
  simp only [bnd_ret, bnd_bnd, lft_some, List.append_nil, sq_ok S hp, sq_no hd, tru_bl, Bool.not_false, if_true]
  rw [if_pos (okBP0 (w := "cells") (by decide +kernel))]
  rfl
theorem cells_ok (S : Type) {d : D} {l : List D} (hd : items d = some l) (h : ∀ x ∈ l, Pl x) : m__checked_cells S [d] = match cellsF l with | some q => rse 0 [.str q.2, .int (q.1 : Nat)] | none => ret (.tup l) := by
  have hp : Pl d := by cases d <;> first | trivial | cases hd
  have okc := okBP0 (w := "cells") (by decide +kernel)
  unfold m__checked_cells cellsF
  simp only [bnd_ret, bnd_bnd, lft_some, List.append_nil, sq_ok S hp, sq_of hd, tru_bl, Bool.not_true, Bool.false_eq_true, if_false, len_ok hd, oLe_int, Option.bind_some, asB_bl, wrong_ok S hd h]
  by_cases c1 : 1 ≤ l.length
  · rw [decide_eq_true (by omega : (1 : Int) ≤ (l.length : Int)), if_pos rfl]
    simp only [lft_some, bnd_ret, asB_bl]
    by_cases c2 : l.length ≤ 700
    · rw [decide_eq_true (by omega : (l.length : Int) ≤ 700), if_pos (show 1 ≤ l.length ∧ l.length ≤ 700 from ⟨c1, c2⟩)]
      simp only [Bool.not_true, Bool.false_eq_true, if_false]
      cases e : fstW badC 0 l with
      | none =>
        simp only [Option.map_none, show oNis .non .non = some (.bl false) from rfl, lft_some, bnd_ret, asB_bl, Bool.false_eq_true, if_false, tuple_ok hd]
      | some q =>
        have := fstW_some (k := q.1) (x := q.2) e
        have hq : q.1 < 1000 := by omega
        simp only [Option.map_some, show oNis (.int ((q.1 : Nat) : Int)) .non = some (.bl true) from rfl, lft_some, bnd_ret, asB_bl, if_true]
        rw [if_pos (okBP hq (w := "colour") (by decide +kernel))]
        rfl
    · rw [decide_eq_false (by omega : ¬ (l.length : Int) ≤ 700), if_neg (show ¬ (1 ≤ l.length ∧ l.length ≤ 700) by omega)]
      simp only [Bool.not_false, if_true]
      rw [if_pos okc]
      rfl
  · rw [decide_eq_false (by omega : ¬ (1 : Int) ≤ (l.length : Int)), if_neg Bool.false_ne_true, if_neg (show ¬ (1 ≤ l.length ∧ l.length ≤ 700) by omega)]
    simp only [bnd_ret, lft_some, asB_bl, Bool.not_false, if_true]
    rw [if_pos okc]
    rfl
theorem istie_ok (S : Type) {n : Nat} {p : IP} (h : tieG n p) : m__is_tie S [prD p, .int (n : Int)] = ret (.bl true) := by
  unfold tieG at h
  have w : ∀ k : Int, 0 ≤ k → k < (n : Int) → whl (.int k) 0 ((n : Int) - 1) = true := fun k h0 h1 => by
    show (decide (0 ≤ k) && decide (k ≤ (n : Int) - 1)) = true
    rw [decide_eq_true h0, decide_eq_true (by omega)]
    rfl
  unfold m__is_tie
  have hc : m_is_couple S [prD p] = ret (.bl true) := by
    rw [couple_ok S (show Pl (prD p) from trivial)]
    rfl
  simp only [bnd_ret, bnd_bnd, lft_some, List.append_nil, hc, tru_bl, Bool.not_true, Bool.false_eq_true, if_false, un2s_pr, oSub_int, whole_ok S (show Pl (.int p.1) from trivial), whole_ok S (show Pl (.int p.2) from trivial), w p.1 h.1 h.2.1, w p.2 h.2.2.1 h.2.2.2.1, asB_bl, if_true, oNe_int]
  rw [decide_eq_false h.2.2.2.2]
  rfl
theorem ties_ok (S : Type) {d : D} {n : Nat} {ps : List IP} (hd : items d = some (ps.map prD)) (h : ∀ p ∈ ps, tieG n p) (hl : ps.length < 64) (hn : n ≤ 1000) : m__checked_ties S [d, .int (n : Int)] = ret (.tup ((tiesP ps).map prD)) := by
  have hp : Pl d := by cases d <;> first | trivial | cases hd
  unfold m__checked_ties
  simp only [bnd_ret, bnd_bnd, lft_some, List.append_nil, sq_ok S hp, sq_of hd, tru_bl, Bool.not_true, Bool.false_eq_true, if_false, len_ok hd, List.length_map, oGt_int, asB_bl]
  rw [decide_eq_false (by omega : ¬ (2000 : Int) < (ps.length : Int)), if_neg Bool.false_ne_true, hd]
  simp only [Option.map_some, lft_some, bnd_ret]
  rw [forN_unit (fun x hx => ?_), bnd_ret, mkL_ok (by rw [List.length_map]; omega), lft_some, bnd_ret]
  · have key := scP_tiesP (S := S) (un := un2s) (f := fun t34 : D × D => bnd (lft (oMin2 t34.1 t34.2)) fun a => bnd (lft (oMax2 t34.1 t34.2)) fun b => lft ((mkL [a, b]).map D.tup)) (ps := ps) (fun p hp => ⟨_, un2s_pr p, by
      obtain ⟨e1, e2⟩ := mm_nrm p
      dsimp only
      rw [e1, lft_some, bnd_ret, e2, lft_some, bnd_ret]
      rfl⟩) (fun p hp => bndP_nrm (h p hp) hn) hl
    rw [show (fun out => lft (oTuple (.lst ((sortP out).map prD))) : List IP → MS S D) = fun out => bnd (ret ((sortP out).map prD)) fun l => lft (oTuple (.lst l)) from rfl, ← bnd_bnd, key, bnd_ret]
    rfl
  · obtain ⟨i, y, hy, rfl⟩ := numb_mem hx
    rw [List.getElem?_map] at hy
    cases e : ps[i]? with
    | none => rw [e] at hy; cases hy
    | some p =>
      rw [e] at hy
      cases hy
      refine ⟨(.int ((0 + i : Nat) : Int), prD p), rfl, ?_⟩
      dsimp only
      rw [istie_ok S (h p (List.mem_of_getElem? e)), bnd_ret, tru_bl, lft_some, bnd_ret, Bool.not_true, if_neg Bool.false_ne_true]
end G_spreadhues_k03_whole_neighbours_and_new

set_option Elab.async false
set_option linter.all false
set_option maxRecDepth 100000
set_option maxHeartbeats 2000000
namespace G_spreadhues_k03_whole_neighbours_and_new
open PySem PySem.Spec PyProof.Rows L2 Dm
/-! ### marks; a picture made -/
def marksG (n : Nat) (ms : List Int) : Prop := 1 ≤ ms.length ∧ ms.length ≤ 4 ∧ ms.Nodup ∧ ∀ m ∈ ms, 0 ≤ m ∧ m < (n : Int)
theorem whl_in {k : Int} {n : Nat} (h0 : 0 ≤ k) (h1 : k < (n : Int)) : whl (.int k) 0 ((n : Int) - 1) = true := by
  show (decide (0 ≤ k) && decide (k ≤ (n : Int) - 1)) = true
  rw [decide_eq_true h0, decide_eq_true (by omega)]
  rfl
theorem whl_int {d : D} {n : Nat} (h : whl d 0 ((n : Int) - 1) = true) : ∃ k : Nat, d = .int (k : Int) ∧ k < n := by
  cases d <;> first | (cases h; done) | skip
  rename_i k
  have h : (decide (0 ≤ k) && decide (k ≤ (n : Int) - 1)) = true := h
  rw [Bool.and_eq_true] at h
  have h0 := of_decide_eq_true h.1
  have h1 := of_decide_eq_true h.2
  exact ⟨k.toNat, by congr 1; omega, by omega⟩
/-- a mark that may stand behind pre -/
def markB (n : Nat) (pre : List Int) : D → Bool
  | .int v => whl (.int v) 0 ((n : Int) - 1) && !decide (v ∈ pre)
  | _ => false
theorem markB_no {n : Nat} {pre : List Int} {x : D} (h : whl x 0 ((n : Int) - 1) = false) : markB n pre x = false := by
  cases x <;> first | rfl | (show (whl _ _ _ && _) = false; rw [h]; rfl)
/-- a good mark lets the loop go on; a bad one ends it -/
theorem mark_turn (S : Type) {d : D} {L : List D} {n i : Nat} {pre : List Int} {x : D} (hd : items d = some L) (hp : L.take i = pre.map D.int) (hx : Pl x) (hi : i < 1000) :
    (bnd (lft (oSub (.int (n : Int)) (.int 1))) fun a => bnd (m_is_whole S [x, .int 0, a]) fun a => bnd (lft (tru a)) fun a => bnd (if (!a) = true then ret true else bnd (lft (oInt? (.int (i : Int)))) fun a => bnd (lft (oSl d none a)) fun a => bnd (lft (oIn x a)) fun x6 => lft (asB x6)) fun b42 => if b42 = true then if okD_BadPicture [.int (i : Int), .str "mark"] = true then rse 0 [.int (i : Int), .str "mark"].reverse else stk else ret () : MS S Unit) =
      if markB n pre x = true then ret () else rse 0 [.str "mark", .int (i : Int)] := by
  have ok := okBP (n := i) hi (w := "mark") (by decide +kernel)
  simp only [oSub_int, lft_some, bnd_ret, whole_ok S hx, tru_bl]
  by_cases c : whl x 0 ((n : Int) - 1) = true
  · obtain ⟨k, rfl, hk⟩ := whl_int c
    obtain ⟨e, h1, h2⟩ := sl_to (k := i) hd
    rw [hp] at h2
    rw [c, Bool.not_true, if_neg Bool.false_ne_true, show oInt? (.int (i : Int)) = some (some (i : Int)) from rfl, lft_some, bnd_ret, h1, lft_some, bnd_ret, oIn_ints h2, lft_some, bnd_ret, asB_bl, lft_some, bnd_ret]
    by_cases m : (k : Int) ∈ pre
    · have e : markB n pre (.int (k : Int)) = false := by
        show (_ && !decide ((k : Int) ∈ pre)) = false
        rw [decide_eq_true m, Bool.not_true, Bool.and_false]
      rw [decide_eq_true m, if_pos rfl, if_pos ok, e, if_neg Bool.false_ne_true]
      rfl
    · have e : markB n pre (.int (k : Int)) = true := by
        show (whl (.int (k : Int)) 0 ((n : Int) - 1) && !decide ((k : Int) ∈ pre)) = true
        rw [c, decide_eq_false m]
        rfl
      rw [decide_eq_false m, if_neg Bool.false_ne_true, e, if_pos rfl]
  · have c' : whl x 0 ((n : Int) - 1) = false := by simpa using c
    rw [c', Bool.not_false, if_pos rfl, bnd_ret, if_pos rfl, if_pos ok, markB_no c', if_neg Bool.false_ne_true]
    rfl
theorem marks_no (S : Type) {d : D} {n : Nat} (hp : Pl d) (hd : items d = none) : m__checked_marks S [d, .int (n : Int)] = rse 0 [.str "marks", .int 0] := by
  unfold m__checked_marks
  simp only [bnd_ret, bnd_bnd, lft_some, List.append_nil, sq_ok S hp, sq_no hd, tru_bl, Bool.not_false, if_true]
  rw [if_pos (okBP0 (w := "marks") (by decide +kernel))]
  rfl
theorem marks_len (S : Type) {d : D} {L : List D} {n : Nat} (hd : items d = some L) (h : ¬ (1 ≤ L.length ∧ L.length ≤ 4)) : m__checked_marks S [d, .int (n : Int)] = rse 0 [.str "marks", .int 0] := by
  have hp : Pl d := by cases d <;> first | trivial | cases hd
  have okc := okBP0 (w := "marks") (by decide +kernel)
  unfold m__checked_marks
  simp only [bnd_ret, bnd_bnd, lft_some, List.append_nil, sq_ok S hp, sq_of hd, tru_bl, Bool.not_true, Bool.false_eq_true, if_false, len_ok hd, oLe_int, Option.bind_some, asB_bl]
  by_cases c1 : 1 ≤ L.length
  · rw [decide_eq_true (by omega : (1 : Int) ≤ (L.length : Int)), if_pos rfl]
    simp only [lft_some, bnd_ret, asB_bl]
    rw [decide_eq_false (by omega : ¬ (L.length : Int) ≤ 4)]
    simp only [Bool.not_false, if_true]
    rw [if_pos okc]
    rfl
  · rw [decide_eq_false (by omega : ¬ (1 : Int) ≤ (L.length : Int)), if_neg Bool.false_ne_true]
    simp only [bnd_ret, lft_some, asB_bl, Bool.not_false, if_true]
    rw [if_pos okc]
    rfl
theorem take_ints {ms : List Int} {i : Nat} (post : List D) (h : i ≤ ms.length) : (ms.map D.int ++ post).take i = (ms.take i).map D.int := by
  rw [List.take_append_of_le_length (by rw [List.length_map]; exact h), List.map_take]
theorem nodup_take {α : Type} {ms : List α} (h : ms.Nodup) {i : Nat} {v : α} (hv : ms[i]? = some v) : v ∉ ms.take i := fun m => by
  obtain ⟨j, hj, e⟩ := List.mem_take_iff_getElem.1 m
  obtain ⟨hi, e2⟩ := List.getElem?_eq_some_iff.1 hv
  have := (List.pairwise_iff_getElem.1 h) j i (by omega) hi (by omega)
  exact this (e.trans e2.symm)
theorem marks_go (S : Type) {d : D} {n : Nat} {ms : List Int} {post : List D} (hd : items d = some (ms.map D.int ++ post)) (h4 : ms.length + post.length ≤ 4) (h1 : 1 ≤ ms.length + post.length) (nd : ms.Nodup) (hm : ∀ m ∈ ms, 0 ≤ m ∧ m < (n : Int)) :
    (post = [] → m__checked_marks S [d, .int (n : Int)] = ret (.tup (ms.map D.int))) ∧ (∀ x post2, post = x :: post2 → Pl x → (whl x 0 ((n : Int) - 1) = false ∨ ∃ v, x = .int v ∧ v ∈ ms) → m__checked_marks S [d, .int (n : Int)] = rse 0 [.str "mark", .int (ms.length : Int)]) := by
  have hp : Pl d := by cases d <;> first | trivial | cases hd
  have ll : (ms.map D.int ++ post).length = ms.length + post.length := by rw [List.length_append, List.length_map]
  have good : ∀ x ∈ numb 0 (ms.map D.int), ∃ t, un2 x = some t ∧ (bnd (lft (oSub (.int (n : Int)) (.int 1))) fun a => bnd (m_is_whole S [t.2, .int 0, a]) fun a => bnd (lft (tru a)) fun a => bnd (if (!a) = true then ret true else bnd (lft (oInt? t.1)) fun a => bnd (lft (oSl d none a)) fun a => bnd (lft (oIn t.2 a)) fun x6 => lft (asB x6)) fun b42 => if b42 = true then if okD_BadPicture [t.1, .str "mark"] = true then rse 0 [t.1, .str "mark"].reverse else stk else ret () : MS S Unit) = ret () := fun x hx => by
    obtain ⟨i, y, hy, rfl⟩ := numb_mem hx
    rw [List.getElem?_map] at hy
    cases e : ms[i]? with
    | none => rw [e] at hy; cases hy
    | some v =>
      rw [e] at hy
      cases hy
      have hi : i < ms.length := (List.getElem?_eq_some_iff.1 e).1
      refine ⟨_, rfl, ?_⟩
      dsimp only
      have tk := take_ints (i := i) post (ms := ms) (by omega)
      rw [show ((0 + i : Nat) : Int) = ((i : Nat) : Int) by rw [Nat.zero_add]]
      rw [mark_turn S hd tk (show Pl (.int v) from trivial) (by omega)]
      have := hm v (List.mem_of_getElem? e)
      have eb : markB n (ms.take i) (.int v) = true := by
        show (whl (.int v) 0 ((n : Int) - 1) && !decide (v ∈ ms.take i)) = true
        rw [whl_in this.1 this.2, decide_eq_false (nodup_take nd e)]
        rfl
      rw [eb, if_pos rfl]
  unfold m__checked_marks
  simp only [bnd_ret, bnd_bnd, lft_some, List.append_nil, sq_ok S hp, sq_of hd, tru_bl, Bool.not_true, Bool.false_eq_true, if_false, len_ok hd, ll, oLe_int, Option.bind_some, asB_bl]
  rw [decide_eq_true (by omega : (1 : Int) ≤ ((ms.length + post.length : Nat) : Int)), if_pos rfl]
  simp only [lft_some, bnd_ret, asB_bl]
  rw [decide_eq_true (by omega : ((ms.length + post.length : Nat) : Int) ≤ 4)]
  simp only [Bool.not_true, Bool.false_eq_true, if_false, hd, Option.map_some, lft_some, bnd_ret]
  rw [numb_app, List.length_map]
  refine ⟨fun e => ?_, fun x post2 e hx hb => ?_⟩
  · subst e
    rw [show numb (0 + ms.length) [] = [] from rfl, List.append_nil, forN_unit good, bnd_ret]
    rw [List.append_nil] at hd
    rw [tuple_ok hd, lft_some]
  · subst e
    rw [show numb (0 + ms.length) (x :: post2) = .tup [.int ((0 + ms.length : Nat) : Int), x] :: numb (0 + ms.length + 1) post2 from rfl, Nat.zero_add]
    rw [List.length_cons] at h4
    rw [forN_bad (t := (.int ((ms.length : Nat) : Int), x)) (c := 0) (fs := [.str "mark", .int (ms.length : Int)]) rfl ?_ good, bnd_rse]
    have tk := take_ints (i := ms.length) (x :: post2) (ms := ms) (Nat.le_refl _)
    rw [List.take_length] at tk
    dsimp only
    have eb : markB n ms x = false := by
      rcases hb with hb | ⟨v, rfl, hv⟩
      · exact markB_no hb
      · show (whl (.int v) 0 ((n : Int) - 1) && !decide (v ∈ ms)) = false
        rw [decide_eq_true hv, Bool.not_true, Bool.and_false]
    rw [mark_turn S hd tk hx (by omega), eb, if_neg Bool.false_ne_true]
theorem marks_ok (S : Type) {d : D} {n : Nat} {ms : List Int} (hd : items d = some (ms.map D.int)) (h : marksG n ms) : m__checked_marks S [d, .int (n : Int)] = ret (.tup (ms.map D.int)) :=
  (marks_go S (post := []) (by rw [List.append_nil]; exact hd) (by simpa using h.2.1) (by simpa using h.1) h.2.2.1 h.2.2.2).1 rfl
/-- a picture as it stands -/
structure Pc (cs : List D) (ts : List IP) (ms : List Int) : Prop where
  cells : cellsF cs = none
  pl : ∀ x ∈ cs, Pl x
  ties : ∀ p ∈ ts, tie1 cs.length p
  few : ts.length < 64
  same : tiesP ts = ts
  marks : marksG cs.length ms
theorem Pc.len {cs : List D} {ts : List IP} {ms : List Int} (h : Pc cs ts ms) : 1 ≤ cs.length ∧ cs.length ≤ 700 := by
  have := h.cells
  unfold cellsF at this
  split at this
  · assumption
  · cases this
theorem init_ok (S : Type) {c t m : D} {cs : List D} {ps : List IP} {ms : List Int} (hc : items c = some cs) (ht : items t = some (ps.map prD)) (hm : items m = some (ms.map D.int)) (h1 : cellsF cs = none) (hp : ∀ x ∈ cs, Pl x) (h2 : ∀ p ∈ ps, tieG cs.length p) (hl : ps.length < 64) (h3 : marksG cs.length ms) :
    m_Picture__init__ S [c, t, m] = ret [.tup cs, .tup ((tiesP ps).map prD), .tup (ms.map D.int)] := by
  have hn : cs.length ≤ 1000 := by
    unfold cellsF at h1
    split at h1
    · omega
    · cases h1
  have e1 := cells_ok S hc hp
  rw [h1] at e1
  have e1 : m__checked_cells S [c] = ret (.tup cs) := e1
  unfold m_Picture__init__
  simp only [bnd_ret, bnd_bnd, lft_some, List.append_nil, e1, fld_i, fld_i2, len_ok (show items (.tup cs) = some cs from rfl), ties_ok S ht h2 hl hn, marks_ok S hm h3]
theorem init_cells (S : Type) {c t m : D} {k : Nat} {fs : List D} (h : m__checked_cells S [c] = rse k fs) : m_Picture__init__ S [c, t, m] = rse k fs := by
  unfold m_Picture__init__
  simp only [bnd_ret, bnd_bnd, lft_some, List.append_nil, h, bnd_rse]
theorem init_marks (S : Type) {c t m : D} {cs : List D} {ps : List IP} {k : Nat} {fs : List D} (hc : items c = some cs) (ht : items t = some (ps.map prD)) (h1 : cellsF cs = none) (hp : ∀ x ∈ cs, Pl x) (h2 : ∀ p ∈ ps, tieG cs.length p) (hl : ps.length < 64) (h : m__checked_marks S [m, .int (cs.length : Int)] = rse k fs) : m_Picture__init__ S [c, t, m] = rse k fs := by
  have hn : cs.length ≤ 1000 := by
    unfold cellsF at h1
    split at h1
    · omega
    · cases h1
  have e1 := cells_ok S hc hp
  rw [h1] at e1
  have e1 : m__checked_cells S [c] = ret (.tup cs) := e1
  unfold m_Picture__init__
  simp only [bnd_ret, bnd_bnd, lft_some, List.append_nil, e1, fld_i, fld_i2, len_ok (show items (.tup cs) = some cs from rfl), ties_ok S ht h2 hl hn, h, bnd_rse]
theorem pc_made {cs : List D} {ps : List IP} {ms : List Int} (h1 : cellsF cs = none) (hp : ∀ x ∈ cs, Pl x) (h2 : ∀ p ∈ ps, tieG cs.length p) (hl : ps.length < 64) (h3 : marksG cs.length ms) : Pc cs (tiesP ps) ms :=
  ⟨h1, hp, tiesP_mem h2, Nat.lt_of_le_of_lt (tiesP_len ps) hl, tiesP_again h2, h3⟩
end G_spreadhues_k03_whole_neighbours_and_new

set_option Elab.async false
set_option linter.all false
set_option maxRecDepth 100000
set_option maxHeartbeats 2000000
namespace G_spreadhues_k03_whole_neighbours_and_new
open PySem PySem.Spec PyProof.Rows L2 Dm
theorem mkL_map {α : Type} {f : α → D} {l : List α} (h : l.length < 100000) : mkL (l.map f) = some (l.map f) := mkL_ok (by rw [List.length_map]; omega)
theorem checkcell_ok (S : Type) {cs : List D} {ts : List IP} {ms : List Int} {d : D} (hl : cs.length < 1000) (hp : Pl d) : m_check_cell S [pic cs ts ms, d] = if whl d 0 ((cs.length : Int) - 1) = true then ret d else rse 1 [d] := by
  unfold m_check_cell
  simp only [bnd_ret, bnd_bnd, lft_some, List.append_nil, len_pic S hl, oSub_int, whole_ok S hp, tru_bl]
  cases whl d 0 ((cs.length : Int) - 1)
  · rw [Bool.not_false, if_pos rfl, if_neg Bool.false_ne_true]
    rfl
  · rw [Bool.not_true, if_neg Bool.false_ne_true, if_pos rfl]
theorem nearlists_ok (S : Type) {n : Nat} {d : D} {ts : List IP} (hd : items d = some (ts.map prD)) (h : ∀ p ∈ ts, tie1 n p) (hl : ts.length < 3000) (hn : n < 1000) : m_near_lists S [.int (n : Int), d] = ret (.lst ((nbQ n ts).map D.lst)) := by
  unfold m_near_lists
  simp only [bnd_ret, bnd_bnd, lft_some, List.append_nil, hd]
  rw [rg1_ok (by omega) (by omega), lft_some, bnd_ret, Int.toNat_natCast, mkL_ok (by rw [rgD_len]; omega), lft_some, bnd_ret, lcQ_new (un := un1) (f := fun _ : D => (lft (mkL []) : MS S (List D))) (fun d hd => ⟨d, rfl, rfl⟩), bnd_ret, rgD_len, nbQ_nil]
  rw [near_forN (n := n) (pre := []) h (by rw [List.length_nil]; omega) fun a b Q Q1 Q2 hab hb hQ e1 l1 e2 => ⟨_, un2s_pr _, ?_⟩, bnd_ret]
  · rfl
  · dsimp only
    rw [atQ_nat (by omega), lft_some, bnd_ret, e1, lft_some, bnd_ret, atQ_nat (by omega), lft_some, bnd_ret, e2, lft_some, bnd_ret]
theorem neigh_ok (S : Type) {cs : List D} {ts : List IP} {ms : List Int} {d : D} (h : ∀ p ∈ ts, tie1 cs.length p) (hl : ts.length < 3000) (hn : cs.length < 1000) (hp : Pl d) : m_neighbours_of S [pic cs ts ms, d] = match d with
    | .int c => if whl (.int c) 0 ((cs.length : Int) - 1) = true then ret (.tup ((nbs ts c).map D.int)) else rse 1 [.int c]
    | d => rse 1 [d] := by
  unfold m_neighbours_of
  simp only [bnd_ret, bnd_bnd, lft_some, List.append_nil, checkcell_ok S hn hp, len_pic S hn, fld_t, nearlists_ok S (show items (.tup (ts.map prD)) = some (ts.map prD) from rfl) h hl (by omega)]
  by_cases c : whl d 0 ((cs.length : Int) - 1) = true
  · obtain ⟨k, rfl, hk⟩ := whl_int c
    rw [if_pos c, bnd_ret]
    dsimp only
    rw [if_pos c]
    have e : oIx (.lst ((nbQ cs.length ts).map D.lst)) (.int (k : Int)) = some (.lst ((nbs ts (k : Int)).map D.int)) := ixI rfl (by rw [List.getElem?_map, nbQ_get ts hk]; rfl)
    rw [e, lft_some, bnd_ret]
    rfl
  · rw [if_neg c, bnd_rse]
    cases d with
    | int k =>
      dsimp only
      rw [if_neg c]
    | _ => rfl
theorem withc_no (S : Type) {cs : List D} {ts : List IP} {ms : List Int} {d : D} (hp : Pl d) (hd : items d = none) : m_with_colours S [pic cs ts ms, d] = rse 0 [.str "cells", .int 0] := by
  unfold m_with_colours
  simp only [bnd_ret, bnd_bnd, lft_some, List.append_nil, sq_ok S hp, sq_no hd, tru_bl, asB_bl, Bool.false_eq_true, if_false, fld_t, fld_m, init_cells S (cells_no S hp hd), bnd_rse]
theorem withc_len (S : Type) {cs : List D} {ts : List IP} {ms : List Int} {d : D} {l : List D} (hd : items d = some l) (hl : l.length ≠ cs.length) (hn : cs.length < 1000) : m_with_colours S [pic cs ts ms, d] = rse 0 [.str "cells", .int 0] := by
  have hp : Pl d := by cases d <;> first | trivial | cases hd
  unfold m_with_colours
  simp only [bnd_ret, bnd_bnd, lft_some, List.append_nil, sq_ok S hp, sq_of hd, tru_bl, asB_bl, if_true, len_ok hd, len_pic S hn, oNe_int]
  rw [decide_eq_false (by omega : ¬ (l.length : Int) = (cs.length : Int)), Bool.not_false, if_pos rfl, if_pos (okBP0 (w := "cells") (by decide +kernel))]
  rfl
theorem withc_eq (S : Type) {cs : List D} {ts : List IP} {ms : List Int} {d : D} {l : List D} (hd : items d = some l) (hl : l.length = cs.length) (hn : cs.length < 1000) : m_with_colours S [pic cs ts ms, d] = bnd (m_Picture__init__ S [d, .tup (ts.map prD), .tup (ms.map D.int)]) fun fs => ret (.obj 3 fs) := by
  have hp : Pl d := by cases d <;> first | trivial | cases hd
  unfold m_with_colours
  simp only [bnd_ret, bnd_bnd, lft_some, List.append_nil, sq_ok S hp, sq_of hd, tru_bl, asB_bl, if_true, len_ok hd, len_pic S hn, oNe_int, fld_t, fld_m]
  rw [decide_eq_true (by omega : (l.length : Int) = (cs.length : Int)), Bool.not_true, if_neg Bool.false_ne_true]
theorem withc_ok (S : Type) {cs l : List D} {ts : List IP} {ms : List Int} {d : D} (h : Pc cs ts ms) (hd : items d = some l) (hl : l.length = cs.length) (h1 : cellsF l = none) (hp : ∀ x ∈ l, Pl x) : m_with_colours S [pic cs ts ms, d] = ret (pic l ts ms) := by
  rw [withc_eq S hd hl (by have := h.len; omega), init_ok S (ps := ts) (ms := ms) hd rfl rfl h1 hp (fun p hp => tieG_of (by rw [hl]; exact h.ties p hp)) h.few (by rw [hl]; exact h.marks), bnd_ret, h.same]
  rfl
theorem withc_bad (S : Type) {cs l : List D} {ts : List IP} {ms : List Int} {d : D} {q : Nat × Str} (h : Pc cs ts ms) (hd : items d = some l) (hl : l.length = cs.length) (h1 : cellsF l = some q) (hp : ∀ x ∈ l, Pl x) : m_with_colours S [pic cs ts ms, d] = rse 0 [.str q.2, .int (q.1 : Nat)] := by
  have e := cells_ok S hd hp
  rw [h1] at e
  rw [withc_eq S hd hl (by have := h.len; omega), init_cells S e, bnd_rse]
theorem checkmark_ok (S : Type) {n : Nat} {d : D} (hp : Pl d) : m_check_mark S [.int (n : Int), d] = if whl d 0 ((n : Int) - 1) = true then ret d else rse 2 [d] := by
  unfold m_check_mark
  simp only [bnd_ret, bnd_bnd, lft_some, List.append_nil, oSub_int, whole_ok S hp, tru_bl]
  cases whl d 0 ((n : Int) - 1)
  · rw [Bool.not_false, if_pos rfl, if_neg Bool.false_ne_true]
    rfl
  · rw [Bool.not_true, if_neg Bool.false_ne_true, if_pos rfl]
theorem withm_eq (S : Type) {cs : List D} {ts : List IP} {ms : List Int} {d : D} : m_with_marks S [pic cs ts ms, d] = bnd (m_Picture__init__ S [.tup cs, .tup (ts.map prD), d]) fun fs => ret (.obj 3 fs) := by
  unfold m_with_marks
  simp only [bnd_ret, bnd_bnd, lft_some, List.append_nil, fld_c, fld_t]
theorem withm_ok (S : Type) {cs : List D} {ts : List IP} {ms ns : List Int} {d : D} (h : Pc cs ts ms) (hd : items d = some (ns.map D.int)) (hn : marksG cs.length ns) : m_with_marks S [pic cs ts ms, d] = ret (pic cs ts ns) := by
  rw [withm_eq, init_ok S (cs := cs) (ps := ts) (ms := ns) rfl rfl hd h.cells h.pl (fun p hp => tieG_of (h.ties p hp)) h.few hn, bnd_ret, h.same]
  rfl
theorem withm_bad (S : Type) {cs : List D} {ts : List IP} {ms : List Int} {d : D} {k : Nat} {fs : List D} (h : Pc cs ts ms) (hb : m__checked_marks S [d, .int (cs.length : Int)] = rse k fs) : m_with_marks S [pic cs ts ms, d] = rse k fs := by
  rw [withm_eq, init_marks S (cs := cs) (ps := ts) rfl rfl h.cells h.pl (fun p hp => tieG_of (h.ties p hp)) h.few hb, bnd_rse]
end G_spreadhues_k03_whole_neighbours_and_new

set_option Elab.async false
set_option linter.all false
set_option maxRecDepth 100000
set_option maxHeartbeats 2000000
namespace G_spreadhues_k03_whole_neighbours_and_new
open PySem PySem.Spec PyProof.Rows L2 Dm
theorem pln_int {i : Int} (h : i.natAbs < 1000000000000000000000000000000) : pln (.int i) = true := decide_eq_true h
/-- tuples through and through -/
def tq : Nat → D → Bool
  | 0, _ => false
  | k + 1, d => match d with
    | .tup xs => decide (xs.length < 1000) && xs.all (tq k)
    | .non => true
    | .int _ => true
    | _ => false
theorem tq_tup {k : Nat} {xs : List D} (hl : xs.length < 1000) (h : ∀ x ∈ xs, tq k x = true) : tq (k + 1) (.tup xs) = true := by
  show (decide (xs.length < 1000) && xs.all (tq k)) = true
  rw [decide_eq_true hl, List.all_eq_true.2 h]
  rfl
theorem tuples_ok (S : Type) : ∀ (k : Nat) {d : D}, tq k d = true → m__law_tuples k S [d] = ret (.bl true)
  | 0, d, h => by cases h
  | k + 1, d, h => by
    unfold m__law_tuples
    cases d with
    | non => rfl
    | int i => rfl
    | tup xs =>
      have h : (decide (xs.length < 1000) && xs.all (tq k)) = true := h
      rw [Bool.and_eq_true] at h
      have hl := of_decide_eq_true h.1
      simp only [bnd_ret, bnd_bnd, lft_some, List.append_nil, show oIsA .tuple (.tup xs) = some (.bl true) from rfl, tru_bl, if_true, show items (.tup xs) = some xs from rfl]
      rw [mkL_ok (by omega), lft_some, bnd_ret, lcM_ret (un := un1) (ts := xs) (p := fun _ => false) (g := fun _ => D.int 1) rfl (fun t ht => ?_) (fun t ht hh => by cases hh), bnd_ret, List.filter_eq_nil_iff.2 (fun _ _ hh => by cases hh)]
      · rfl
      · rw [tuples_ok S k (List.all_eq_true.1 h.2 t ht), bnd_ret, tru_bl, lft_some, bnd_ret]
        rfl
    | _ => cases h
theorem tq_prD (k : Nat) (p : IP) : tq (k + 2) (prD p) = true := tq_tup (by show 2 < 1000; decide) fun x hx => by
  simp only [List.mem_cons, List.not_mem_nil, or_false] at hx
  rcases hx with rfl | rfl <;> rfl
theorem tq_ints (k : Nat) {l : List Int} (h : l.length < 1000) : tq (k + 2) (.tup (l.map D.int)) = true := tq_tup (by rw [List.length_map]; exact h) fun x hx => by
  obtain ⟨i, _, rfl⟩ := List.mem_map.1 hx
  rfl
theorem lawnear_ok (S : Type) {n : Nat} {d : D} {ts : List IP} (hd : items d = some (ts.map prD)) (h : ∀ p ∈ ts, tie1 n p) (hl : ts.length < 3000) (hn : n < 1000) : m__law_near S [.int (n : Int), d] = ret (.lst ((nbQ n ts).map D.lst)) := by
  unfold m__law_near
  simp only [bnd_ret, bnd_bnd, lft_some, List.append_nil, hd]
  rw [rg1_ok (by omega) (by omega), lft_some, bnd_ret, Int.toNat_natCast, mkL_ok (by rw [rgD_len]; omega), lft_some, bnd_ret, lcQ_new (un := un1) (f := fun _ : D => (lft (mkL []) : MS S (List D))) (fun d hd => ⟨d, rfl, rfl⟩), bnd_ret, rgD_len, nbQ_nil]
  rw [near_forN (un := un1) (n := n) (pre := []) h (by rw [List.length_nil]; omega) fun a b Q Q1 Q2 hab hb hQ e1 l1 e2 => ⟨_, rfl, ?_⟩, bnd_ret]
  · rfl
  · have i0 : oIx (prD ((a : Int), (b : Int))) (.int 0) = some (.int (a : Int)) := rfl
    have i1 : oIx (prD ((a : Int), (b : Int))) (.int 1) = some (.int (b : Int)) := rfl
    simp only [i0, i1, lft_some, bnd_ret, atQ_nat (show a < Q.length by omega), e1, atQ_nat (show b < Q1.length by omega), e2]
theorem least_ok (S : Type) {n : Nat} {d : D} {ps : List IP} (hd : items d = some (ps.map prD)) (h : ∀ p ∈ ps, tieG n p) (hl : ps.length < 64) (hn : n ≤ 1000) : m__law_least S [d] = ret (.tup ((tiesP ps).map prD)) := by
  unfold m__law_least
  simp only [bnd_ret, bnd_bnd, lft_some, List.append_nil, hd]
  rw [mkL_ok (by rw [List.length_map]; omega), lft_some, bnd_ret, lcM_ret (un := un1) (ts := ps.map prD) (p := fun _ => true) (g := fun d => match Dm.pairD d with | some p => prD (nrm p) | none => .non) rfl (fun t ht => rfl) (fun t ht _ => ?_), bnd_ret, filter_yes, List.map_map]
  · have e : (ps.map ((fun d => match Dm.pairD d with | some p => prD (nrm p) | none => .non) ∘ prD)) = (ps.map nrm).map prD := by
      rw [List.map_map]
      rfl
    rw [e, setP_tiesP (fun p hp => bndP_nrm (h p hp) hn) hl, lft_some, bnd_ret]
    rfl
  · obtain ⟨p, hp, rfl⟩ := List.mem_map.1 ht
    obtain ⟨e1, e2⟩ := mm_nrm p
    have i0 : oIx (prD p) (.int 0) = some (.int p.1) := rfl
    have i1 : oIx (prD p) (.int 1) = some (.int p.2) := rfl
    simp only [i0, i1, lft_some, bnd_ret, e1, e2]
    rfl
theorem made_ok (S : Type) {P c t m : D} {cs : List D} {ps : List IP} {ms : List Int} (h0 : oIx P (.int 0) = some c) (ht0 : oIx P (.int 1) = some t) (hm0 : oIx P (.int 2) = some m) (hc : items c = some cs) (ht : items t = some (ps.map prD)) (hm : items m = some (ms.map D.int)) (h1 : cellsF cs = none) (hp : ∀ x ∈ cs, Pl x) (h2 : ∀ p ∈ ps, tieG cs.length p) (hl : ps.length < 64) (h3 : marksG cs.length ms) :
    m__law_made S [P] = ret (pic cs (tiesP ps) ms) := by
  unfold m__law_made
  simp only [bnd_ret, bnd_bnd, lft_some, List.append_nil, h0, ht0, hm0, hc, ht, hm]
  rw [init_ok S (cs := cs) (ps := ps) (ms := ms) rfl rfl rfl h1 hp h2 hl h3, bnd_ret]
  rfl
end G_spreadhues_k03_whole_neighbours_and_new

set_option Elab.async false
set_option linter.all false
set_option maxRecDepth 100000
set_option maxHeartbeats 2000000
namespace G_spreadhues_k03_whole_neighbours_and_new
open PySem PySem.Spec PyProof.Rows L2 Dm
def ref (d : D) : D := .lst [.str "refused", d]
def Lo (d : D) : Prop := pln d = true ∧ depD d ≤ 5
theorem Lo.pl {d : D} (h : Lo d) : Pl d := Pl.of h.1
theorem ne_self {d : D} (h : Lo d) : oNe d d = some (.bl false) := oNe_of (eqD_self h.1 (by have := h.2; omega))
theorem eq_self {d : D} (h : Lo d) : oEq d d = some (.bl true) := oEq_of (eqD_self h.1 (by have := h.2; omega))
theorem lo_int {i : Int} (h : i.natAbs < 1000000000000000000000000000000) : Lo (.int i) := ⟨pln_int h, by simp [depD]⟩
theorem lo_ref {d : D} (h : pln d = true ∧ depD d ≤ 4) : Lo (ref d) := ⟨by
  show (pln (.str "refused") && (pln d && true)) = true
  rw [h.1]
  decide +kernel, by
  show max (depD (.str "refused")) (max (depD d) 0) + 1 ≤ 5
  have e : depD (.str "refused") = 0 := rfl
  rw [e]
  have := h.2
  omega⟩
theorem lo_tup {l : List D} (h : ∀ d ∈ l, pln d = true ∧ depD d ≤ 4) : Lo (.tup l) := ⟨by show plns l = true; exact plns_mem.2 fun d hd => (h d hd).1, by unfold depD; exact Nat.succ_le_succ (depsD_le fun d hd => (h d hd).2)⟩
theorem lo_lst {l : List D} (h : ∀ d ∈ l, pln d = true ∧ depD d ≤ 4) : Lo (.lst l) := ⟨by show plns l = true; exact plns_mem.2 fun d hd => (h d hd).1, by unfold depD; exact Nat.succ_le_succ (depsD_le fun d hd => (h d hd).2)⟩
theorem lo_prs {l : List IP} (h : ∀ p ∈ l, bndP p = true) : ∀ d ∈ l.map prD, pln d = true ∧ depD d ≤ 4 := fun d hd => by
  obtain ⟨p, hp, rfl⟩ := List.mem_map.1 hd
  have := bndP_iff.1 (h p hp)
  have h1 := pln_int (i := p.1) (by omega)
  have h2 := pln_int (i := p.2) (by omega)
  refine ⟨?_, ?_⟩
  · show (pln (.int p.1) && (pln (.int p.2) && true)) = true
    rw [h1, h2]
    rfl
  · show max (depD (.int p.1)) (max (depD (.int p.2)) 0) + 1 ≤ 4
    have e : ∀ i : Int, depD (.int i) = 0 := fun i => rfl
    rw [e, e]
    decide
theorem lo_ints {l : List Int} (h : ∀ i ∈ l, i.natAbs < 1000000000000000000000000000000) : ∀ d ∈ l.map D.int, pln d = true ∧ depD d ≤ 4 := fun d hd => by
  obtain ⟨i, hi, rfl⟩ := List.mem_map.1 hd
  exact ⟨pln_int (h i hi), by simp [depD]⟩
theorem cell_ok (S : Type) {cs : List D} {ts : List IP} {ms : List Int} {d : D} (hl : cs.length < 1000) (hp : Pl d) : m__law_cell S [pic cs ts ms, d] = ret (if whl d 0 ((cs.length : Int) - 1) = true then d else ref d) := by
  unfold m__law_cell
  simp only [bnd_ret, bnd_bnd, lft_some, List.append_nil, checkcell_ok S hl hp]
  by_cases c : whl d 0 ((cs.length : Int) - 1) = true
  · rw [if_pos c, if_pos c, try_ret (v := d) (by rw [bnd_ret]), bnd_ret]
  · rw [if_neg c, if_neg c, try_rse (c := 1) (fs := [d]) (by rw [bnd_rse])]
    rfl
def nbD (ts : List IP) : D → D
  | .int c => .tup ((nbs ts c).map D.int)
  | _ => .non
theorem nearof_ok (S : Type) {cs : List D} {ts : List IP} {ms : List Int} {d : D} (h : Pc cs ts ms) (hp : Pl d) : m__law_near_of S [pic cs ts ms, d] = ret (if whl d 0 ((cs.length : Int) - 1) = true then nbD ts d else ref d) := by
  have hl := h.len
  have e := neigh_ok S (ms := ms) h.ties (by have := h.few; omega) (by omega : cs.length < 1000) hp
  unfold m__law_near_of
  simp only [bnd_ret, bnd_bnd, lft_some, List.append_nil]
  by_cases c : whl d 0 ((cs.length : Int) - 1) = true
  · obtain ⟨k, rfl, hk⟩ := whl_int c
    dsimp only at e
    rw [if_pos c] at e
    rw [if_pos c, e, try_ret (v := nbD ts (.int (k : Int))) (by rw [bnd_ret]; rfl), bnd_ret]
  · have e2 : m_neighbours_of S [pic cs ts ms, d] = rse 1 [d] := by
      rw [e]
      cases d with
      | int k =>
        dsimp only
        rw [if_neg c]
      | _ => rfl
    rw [if_neg c, e2, try_rse (c := 1) (fs := [d]) (by rw [bnd_rse])]
    rfl
theorem mark_ok (S : Type) {n : Nat} {d : D} (hp : Pl d) : m__law_mark S [.int (n : Int), d] = ret (if whl d 0 ((n : Int) - 1) = true then d else ref d) := by
  unfold m__law_mark
  simp only [bnd_ret, bnd_bnd, lft_some, List.append_nil, checkmark_ok S hp]
  by_cases c : whl d 0 ((n : Int) - 1) = true
  · rw [if_pos c, if_pos c, try_ret (v := d) (by rw [bnd_ret]), bnd_ret]
  · rw [if_neg c, if_neg c, try_rse (c := 2) (fs := [d]) (by rw [bnd_rse])]
    rfl
theorem new_ret (S : Type) {P d v : D} (h : m_with_colours S [P, d] = ret v) : m__law_new S [P, d] = ret v := by
  unfold m__law_new
  simp only [bnd_ret, bnd_bnd, lft_some, List.append_nil]
  rw [h, try_ret (v := v) (by rw [bnd_ret]), bnd_ret]
theorem new_rse (S : Type) {P d : D} {i : Int} {w : Str} (h : m_with_colours S [P, d] = rse 0 [.str w, .int i]) : m__law_new S [P, d] = ret (.lst [.int i, .str w]) := by
  unfold m__law_new
  simp only [bnd_ret, bnd_bnd, lft_some, List.append_nil]
  rw [h, try_rse (c := 0) (fs := [.str w, .int i]) (by rw [bnd_rse])]
  rfl
theorem moved_ret (S : Type) {P d v : D} (h : m_with_marks S [P, d] = ret v) : m__law_moved S [P, d] = ret v := by
  unfold m__law_moved
  simp only [bnd_ret, bnd_bnd, lft_some, List.append_nil]
  rw [h, try_ret (v := v) (by rw [bnd_ret]), bnd_ret]
theorem moved_rse (S : Type) {P d : D} {i : Int} {w : Str} (h : m_with_marks S [P, d] = rse 0 [.str w, .int i]) : m__law_moved S [P, d] = ret (.lst [.int i, .str w]) := by
  unfold m__law_moved
  simp only [bnd_ret, bnd_bnd, lft_some, List.append_nil]
  rw [h, try_rse (c := 0) (fs := [.str w, .int i]) (by rw [bnd_rse])]
  rfl
/-- cells' colours as they are drawn -/
def colL (cs : List D) : Prop := ∀ d ∈ cs, ∃ k : Int, d = .int k ∧ 0 ≤ k ∧ k < 100
theorem colL.pl {cs : List D} (h : colL cs) : ∀ x ∈ cs, Pl x := fun x hx => by
  obtain ⟨k, rfl, _⟩ := h x hx
  trivial
theorem colL.lo {cs : List D} (h : colL cs) : ∀ d ∈ cs, pln d = true ∧ depD d ≤ 4 := fun x hx => by
  obtain ⟨k, rfl, h0, h1⟩ := h x hx
  exact ⟨pln_int (by omega), by simp [depD]⟩
theorem colL.ok {cs : List D} (h : colL cs) (h1 : 1 ≤ cs.length) (h7 : cs.length ≤ 700) : cellsF cs = none := by
  unfold cellsF
  rw [if_pos ⟨h1, h7⟩]
  have : ∀ (l : List D) (n : Nat), colL l → fstW badC n l = none := by
    intro l
    induction l with
    | nil => intro n _; rfl
    | cons x l ih =>
      intro n hc
      obtain ⟨k, rfl, k0, k1⟩ := hc x (by simp)
      have e : badC (.int k) = none := by
        show (if (decide (0 ≤ k) && decide (k ≤ 99)) = true then none else some ()) = _
        rw [decide_eq_true k0, decide_eq_true (by omega : k ≤ 99)]
        rfl
      unfold fstW
      rw [e]
      exact ih (n + 1) fun y hy => hc y (by simp [hy])
  rw [this cs 0 h]
  rfl
theorem tq_pic {cs : List D} {ts : List IP} {ms : List Int} (hc : colL cs) (h1 : cs.length < 1000) (h2 : ts.length < 1000) (h3 : ms.length < 1000) : tq 5 (.tup [.tup cs, .tup (ts.map prD), .tup (ms.map D.int)]) = true := tq_tup (by show 3 < 1000; decide) fun x hx => by
  simp only [List.mem_cons, List.not_mem_nil, or_false] at hx
  rcases hx with rfl | rfl | rfl
  · exact tq_tup h1 fun x hx => by
      obtain ⟨k, rfl, _⟩ := hc x hx
      rfl
  · exact tq_tup (by rw [List.length_map]; exact h2) fun x hx => by
      obtain ⟨p, _, rfl⟩ := List.mem_map.1 hx
      exact tq_prD 1 p
  · exact tq_ints 2 h3
theorem same_ok (S : Type) {P c t m : D} {cs : List D} {ps : List IP} {ms : List Int} (h0 : oIx P (.int 0) = some c) (ht0 : oIx P (.int 1) = some t) (hm0 : oIx P (.int 2) = some m) (hc : items c = some cs) (ht : items t = some (ps.map prD)) (hm : items m = some (ms.map D.int)) (hcl : colL cs) (h7 : cs.length ≤ 700) (h2 : ∀ p ∈ ps, tieG cs.length p) (hl : ps.length < 64) (h3 : marksG cs.length ms) :
    m__law_same S [pic cs (tiesP ps) ms, P] = ret (.bl true) := by
  have l1 := tiesP_len ps
  have e1 := tuples_ok S 5 (tq_pic (ts := tiesP ps) (ms := ms) hcl (by omega) (by omega) (by have := h3.2.1; omega))
  have q1 := eq_self (lo_tup (l := cs) hcl.lo)
  have q2 := eq_self (lo_tup (l := (tiesP ps).map prD) (lo_prs fun p hp => by
    have := tiesP_mem h2 p hp
    unfold tie1 at this
    rw [bndP_iff]
    omega))
  have q3 := eq_self (lo_tup (l := ms.map D.int) (lo_ints fun i hi => by have := h3.2.2.2 i hi; omega))
  unfold m__law_same
  simp only [bnd_ret, bnd_bnd, lft_some, List.append_nil, show oIsC 3 4 3 (pic cs (tiesP ps) ms) = some (.bl true) from rfl, tru_bl, Bool.not_true, Bool.false_eq_true, if_false, fld_c, fld_t, fld_m, mk3, Option.map_some, e1, h0, ht0, hm0, tuple_ok hc, tuple_ok hm, q1, asB_bl, if_true, least_ok S ht h2 hl (by omega), q2, q3]
end G_spreadhues_k03_whole_neighbours_and_new

set_option Elab.async false
set_option linter.all false
set_option maxRecDepth 100000
set_option maxHeartbeats 2000000
namespace G_spreadhues_k03_whole_neighbours_and_new
open PySem PySem.Spec PyProof.Rows L2 Dm
/-! ### drawn pictures -/
def TG (n j : Nat) (s : List D) : Prop := ∃ ps : List IP, s = ps.map prD ∧ (∀ p ∈ ps, tieG n p) ∧ ps.length ≤ j
theorem TG.app {n j : Nat} {s : List D} {x y : Int} (h : TG n j s) (hj : j < 900) (t : tieG n (x, y)) : ∃ s', app1 s (.tup [.int x, .int y]) = some s' ∧ TG n (j + 1) s' := by
  obtain ⟨ps, rfl, h1, h2⟩ := h
  refine ⟨_, Dm.app_ok (by rw [List.length_map]; omega), ps ++ [(x, y)], by rw [List.map_append]; rfl, fun p hp => ?_, by rw [List.length_append]; exact Nat.succ_le_succ h2⟩
  rcases List.mem_append.1 hp with q | q
  · exact h1 p q
  · rw [List.mem_singleton.1 q]
    exact t
theorem TG.le {n j k : Nat} {s : List D} (h : TG n j s) (hk : j ≤ k) : TG n k s := by
  obtain ⟨ps, e, h1, h2⟩ := h
  exact ⟨ps, e, h1, by omega⟩
section
variable {cells : List Int} (hc : cells.length ≤ 63)
include hc
theorem colour_tk : Tk cells (m__law_colour cells []) (fun d => ∃ k : Int, d = .int k ∧ 0 ≤ k ∧ k < 100) := by
  unfold m__law_colour
  simp only [bnd_ret, bnd_bnd, lft_some, List.append_nil]
  refine tk_bnd (take_ok (n := 16) (by decide) (by decide) hc) fun d hd => ?_
  obtain ⟨k, rfl, k0, k1⟩ := hd
  simp only [oEq_int, oLt_int, asB_bl, lft_some, bnd_ret]
  refine tk_ite (fun _ => ?_) fun _ => tk_ite (fun _ => ?_) fun _ => ?_
  · exact take_ok (n := 100) (by decide) (by decide) hc
  · exact tk_mono (take_ok (n := 6) (by decide) (by decide) hc) fun d ⟨k, e, h0, h1⟩ => ⟨k, e, h0, by omega⟩
  · exact tk_mono (take_ok (n := 3) (by decide) (by decide) hc) fun d ⟨k, e, h0, h1⟩ => ⟨k, e, h0, by omega⟩
theorem ties_tk {n : Nat} (h2 : 2 ≤ n) (h9 : n ≤ 40) : Tk cells (m__law_ties cells [.int (n : Int)]) (fun d => ∃ ps : List IP, d = .lst (ps.map prD) ∧ (∀ p ∈ ps, tieG n p) ∧ ps.length ≤ n + 4) := by
  unfold m__law_ties
  simp only [bnd_ret, bnd_bnd, lft_some, List.append_nil, mk0]
  refine tk_bnd (take_ok (n := 5) (by decide) (by decide) hc) fun d hd => ?_
  obtain ⟨k, rfl, k0, k1⟩ := hd
  have e1 := rg2_ok (a := 1) (b := n) (by decide) (by omega)
  rw [show ((1 : Nat) : Int) = 1 from rfl] at e1
  rw [e1, lft_some, bnd_ret]
  refine tk_bnd (P := TG n (n - 1)) ?_ fun s hs => ?_
  · have key := tk_forB (cells := cells) (un := un1) (n - 1) (TG n) (ds := rgD 1 (n - 1)) (n := 0) (a := []) (f := fun (t13 : D) (s12 : List D) => bnd (lft (oLt (.int k) (.int 2))) fun a => bnd (lft (asB a)) fun b17 => if b17 = true then bnd (lft (oSub t13 (.int 1))) fun a => bnd (lft ((mkL [a, t13]).map D.tup)) fun a => bnd (lft (app1 s12 a)) fun es18 => ret es18 else bnd (lft (oEq (.int k) (.int 2))) fun a => bnd (lft (asB a)) fun b31 => if b31 = true then bnd (lft (oSub t13 (.int 2))) fun a => bnd (lft (oMax2 a (.int 0))) fun a => bnd (lft ((mkL [a, t13]).map D.tup)) fun a => bnd (lft (app1 s12 a)) fun es18 => ret es18 else bnd (m__law_take cells [t13]) fun a => bnd (lft ((mkL [a, t13]).map D.tup)) fun a => bnd (lft (app1 s12 a)) fun es18 => ret es18) (by rw [rgD_len]; omega) ⟨[], rfl, (fun _ q => nomatch q), Nat.le_refl _⟩ fun d hd => ?_
    · rw [rgD_len, Nat.zero_add] at key
      exact key
    · obtain ⟨i, hi, rfl⟩ := List.mem_map.1 hd
      have hi : i < n - 1 := List.mem_range.1 hi
      refine ⟨_, rfl, fun j s hj hs => ?_⟩
      simp only [oLt_int, oEq_int, asB_bl, lft_some, bnd_ret, oSub_int, mk2, Option.map_some]
      refine tk_ite (fun _ => ?_) fun _ => tk_ite (fun _ => ?_) fun _ => ?_
      · obtain ⟨s', e, h⟩ := hs.app (x := 1 + (i : Int) - 1) (y := 1 + (i : Int)) (by omega) (by unfold tieG; dsimp only; omega)
        rw [e, lft_some, bnd_ret]
        exact tk_ret h
      · have em : oMax2 (.int (1 + (i : Int) - 2)) (.int 0) = some (.int (if (0 : Int) > 1 + (i : Int) - 2 then 0 else 1 + (i : Int) - 2)) := rfl
        rw [em, lft_some, bnd_ret]
        obtain ⟨s', e, h⟩ := hs.app (x := if (0 : Int) > 1 + (i : Int) - 2 then 0 else 1 + (i : Int) - 2) (y := 1 + (i : Int)) (by omega) (by unfold tieG; dsimp only; split <;> omega)
        rw [e, lft_some, bnd_ret]
        exact tk_ret h
      · refine tk_bnd (take_ok (n := 1 + (i : Int)) (by omega) (by omega) hc) fun d hd => ?_
        obtain ⟨q, rfl, q0, q1⟩ := hd
        obtain ⟨s', e, h⟩ := hs.app (x := q) (y := 1 + (i : Int)) (by omega) (by unfold tieG; dsimp only; omega)
        rw [e, lft_some, bnd_ret]
        exact tk_ret h
  · simp only [oEq_int, oGt_int, asB_bl, lft_some, bnd_ret]
    refine tk_bnd (P := fun _ : Bool => True) (tk_ite (fun _ => tk_ret trivial) fun _ => tk_ret trivial) fun b hb => ?_
    refine tk_bnd (P := TG n n) ?_ fun s2 hs2 => ?_
    · refine tk_ite (fun _ => ?_) fun _ => tk_ret (hs.le (by omega))
      simp only [oSub_int, lft_some, bnd_ret, mk2, Option.map_some]
      obtain ⟨s', e, h⟩ := hs.app (x := (n : Int) - 1) (y := 0) (by omega) (by unfold tieG; dsimp only; omega)
      rw [e, lft_some, bnd_ret]
      exact tk_ret (h.le (by omega))
    · refine tk_bnd (P := TG n (n + 4)) ?_ fun s3 hs3 => ?_
      · refine tk_ite (fun _ => ?_) fun _ => tk_ret (hs2.le (by omega))
        refine tk_bnd (take_ok (n := 4) (by decide) (by decide) hc) fun d hd => ?_
        obtain ⟨q, rfl, q0, q1⟩ := hd
        rw [rg1_ok q0 (by omega), lft_some, bnd_ret]
        refine tk_bnd (P := TG n (n + q.toNat)) ?_ fun s hs => tk_ret (hs.le (by omega))
        have key := tk_forB (cells := cells) (un := un1) (n + q.toNat) (TG n) (ds := rgD 0 q.toNat) (n := n) (a := s2) (f := fun (t86 : D) (s85 : List D) => bnd (m__law_take cells [.int (n : Int)]) fun v_one_87 => bnd (m__law_take cells [.int (n : Int)]) fun v_other_91 => bnd (lft (oNe v_one_87 v_other_91)) fun a => bnd (lft (asB a)) fun b98 => if b98 = true then bnd (lft ((mkL [v_one_87, v_other_91]).map D.tup)) fun a => bnd (lft (app1 s85 a)) fun es18 => ret es18 else ret s85) (by rw [rgD_len]; omega) hs2 fun d hd => ⟨_, rfl, fun j s hj hs => ?_⟩
        · rw [rgD_len] at key
          exact key
        · refine tk_bnd (take_ok (n := (n : Int)) (by omega) (by omega) hc) fun d hd => ?_
          obtain ⟨x, rfl, x0, x1⟩ := hd
          refine tk_bnd (take_ok (n := (n : Int)) (by omega) (by omega) hc) fun d hd => ?_
          obtain ⟨y, rfl, y0, y1⟩ := hd
          simp only [oNe_int, asB_bl, lft_some, bnd_ret, mk2, Option.map_some]
          refine tk_ite (fun c => ?_) fun _ => tk_ret (hs.le (by omega))
          have c : ¬ x = y := by simpa using c
          obtain ⟨s', e, h⟩ := hs.app (x := x) (y := y) (by omega) (by unfold tieG; dsimp only; omega)
          rw [e, lft_some, bnd_ret]
          exact tk_ret h
      · refine tk_bnd (take_ok (n := 8) (by decide) (by decide) hc) fun d hd => ?_
        obtain ⟨q, rfl, q0, q1⟩ := hd
        simp only [oEq_int, asB_bl, lft_some, bnd_ret]
        refine tk_bnd (P := TG n (n + 4)) ?_ fun s4 hs4 => ?_
        · refine tk_ite (fun _ => ?_) fun _ => tk_ret hs3
          rw [show oInt? (.int 1) = some (some 1) from rfl, lft_some, bnd_ret, show oSlL (.lst s3) (some 1) none = some (s3.drop 1) by rw [← cut_drop]; rfl, lft_some, bnd_ret]
          obtain ⟨ps, rfl, h1, h2⟩ := hs3
          exact tk_ret ⟨ps.drop 1, by rw [List.map_drop], fun p hp => h1 p (List.mem_of_mem_drop hp), by rw [List.length_drop]; omega⟩
        · obtain ⟨ps, rfl, h1, h2⟩ := hs4
          exact tk_ret ⟨ps, rfl, h1, h2⟩
end
end G_spreadhues_k03_whole_neighbours_and_new

set_option Elab.async false
set_option linter.all false
set_option maxRecDepth 100000
set_option maxHeartbeats 2000000
namespace G_spreadhues_k03_whole_neighbours_and_new
open PySem PySem.Spec PyProof.Rows L2 Dm
noncomputable def mkTurn (st n : D) (t18 : D) (s17 : List D) : MS Hd (Fl (List D) (List D)) := bnd (lft (oAdd st t18)) fun a => bnd (lft (oIntOf a)) fun a => bnd (lft (oMod a n)) fun v_cell_here_19 => bnd (lft (oNin v_cell_here_19 (.lst s17))) fun a => bnd (lft (asB a)) fun b28 => if b28 = true then bnd (lft (app1 s17 v_cell_here_19)) fun es29 => ret (Fl.bk es29) else ret (Fl.nx s17)
/-- marks, so far j turns -/
def MG (n j : Nat) (s : List D) : Prop := ∃ ms : List Int, s = ms.map D.int ∧ ms.Nodup ∧ (∀ m ∈ ms, 0 ≤ m ∧ m < (n : Int)) ∧ ms.length ≤ j ∧ (1 ≤ j → 1 ≤ ms.length)
theorem mark_walk {S : Type} {f : D → List D → MS S (Fl (List D) (List D))} {n : Nat} {ms : List Int} : ∀ {ds : List D}, (∀ d ∈ ds, ∃ c : Int, 0 ≤ c ∧ c < (n : Int) ∧ f d (ms.map D.int) = if c ∈ ms then ret (.nx (ms.map D.int)) else ret (.bk ((ms ++ [c]).map D.int))) →
    forF un1 f ds (ms.map D.int) = ret (.nx (ms.map D.int)) ∨ ∃ c : Int, 0 ≤ c ∧ c < (n : Int) ∧ c ∉ ms ∧ forF un1 f ds (ms.map D.int) = ret (.nx ((ms ++ [c]).map D.int))
  | [], _ => .inl rfl
  | d :: ds, h => by
    obtain ⟨c, c0, c1, e⟩ := h d (by simp)
    by_cases m : c ∈ ms
    · rw [if_pos m] at e
      rw [forF_nx (un := un1) (t := d) rfl e]
      exact mark_walk fun x hx => h x (by simp [hx])
    · rw [if_neg m] at e
      refine .inr ⟨c, c0, c1, m, ?_⟩
      show bnd (lft (un1 d)) (fun t => bnd (f t (ms.map D.int)) _) = _
      rw [show un1 d = some d from rfl, lft_some, bnd_ret, e, bnd_ret]
theorem mark_first {S : Type} {f : D → List D → MS S (Fl (List D) (List D))} {n : Nat} {d : D} {ds : List D} (h : ∃ c : Int, 0 ≤ c ∧ c < (n : Int) ∧ f d [] = if c ∈ ([] : List Int) then ret (.nx []) else ret (.bk (([] ++ [c] : List Int).map D.int))) : ∃ c : Int, 0 ≤ c ∧ c < (n : Int) ∧ forF un1 f (d :: ds) [] = ret (.nx ([c].map D.int)) := by
  obtain ⟨c, c0, c1, e⟩ := h
  rw [if_neg (List.not_mem_nil)] at e
  refine ⟨c, c0, c1, ?_⟩
  show bnd (lft (un1 d)) (fun t => bnd (f t []) _) = _
  rw [show un1 d = some d from rfl, lft_some, bnd_ret, e, bnd_ret]
  rfl
section
variable {cells : List Int} (hc : cells.length ≤ 63)
include hc
theorem marks_tk {n w : Nat} (h2 : 1 ≤ n) (hn : n < 1000) (w1 : 1 ≤ w) (w4 : w ≤ 4) : Tk cells (m__law_marks cells [.int (n : Int), .int (w : Int)]) (fun d => ∃ ms : List Int, d = .lst (ms.map D.int) ∧ marksG n ms) := by
  unfold m__law_marks
  simp only [bnd_ret, bnd_bnd, lft_some, List.append_nil, mk0]
  have em : oMin2 (.int (w : Int)) (.int (n : Int)) = some (.int ((min w n : Nat) : Int)) := by
    show some (D.int (if (n : Int) < (w : Int) then (n : Int) else (w : Int))) = _
    congr 2
    split <;> omega
  rw [em, lft_some, bnd_ret, rg1_ok (by omega) (by omega), lft_some, bnd_ret, Int.toNat_natCast]
  refine tk_bnd (P := MG n (min w n)) ?_ fun s hs => ?_
  · have key := tk_forB (cells := cells) (un := un1) (min w n) (MG n) (ds := rgD 0 (min w n)) (n := 0) (a := []) (f := fun (t9 : D) (s8 : List D) => bnd (m__law_take cells [.int (n : Int)]) fun v_start_10 => bnd (lft (rg1 [.int (n : Int)])) fun a => bnd (forF un1 (fun (t18 : D) (s17 : List D) => bnd (lft (oAdd v_start_10 t18)) fun a => bnd (lft (oIntOf a)) fun a => bnd (lft (oMod a (.int (n : Int)))) fun v_cell_here_19 => bnd (lft (oNin v_cell_here_19 (.lst s17))) fun a => bnd (lft (asB a)) fun b28 => if b28 = true then bnd (lft (app1 s17 v_cell_here_19)) fun es29 => ret (Fl.bk es29) else ret (Fl.nx s17)) a s8) (frN fun s17 => ret s17)) (by rw [rgD_len]; omega) ⟨[], rfl, List.nodup_nil, (fun _ q => nomatch q), Nat.le_refl _, fun h => absurd h (by decide)⟩ fun d hd => ⟨_, rfl, fun j s hj hs => ?_⟩
    · rw [rgD_len, Nat.zero_add] at key
      exact key
    · refine tk_bnd (take_ok (n := (n : Int)) (by omega) (by omega) hc) fun d hd => ?_
      obtain ⟨st, rfl, s0, s1⟩ := hd
      rw [rg1_ok (by omega) (by omega), lft_some, bnd_ret, Int.toNat_natCast]
      obtain ⟨ms, rfl, nd, hm, hl, hl1⟩ := hs
      have turn : ∀ d ∈ rgD 0 n, ∃ c : Int, 0 ≤ c ∧ c < (n : Int) ∧ mkTurn (.int st) (.int (n : Int)) d (ms.map D.int) = if c ∈ ms then ret (.nx (ms.map D.int)) else ret (.bk ((ms ++ [c]).map D.int)) := fun d hd => by
        obtain ⟨i, hi, rfl⟩ := List.mem_map.1 hd
        obtain ⟨o0, o1⟩ := fmod_in (i := st + (0 + (i : Int))) (j := (n : Int)) (by omega)
        refine ⟨(st + (0 + (i : Int))).fmod (n : Int), o0, o1, ?_⟩
        unfold mkTurn
        rw [oAdd_int, lft_some, bnd_ret, oIntOf_int, lft_some, bnd_ret, mod_pos (by omega), lft_some, bnd_ret]
        generalize (st + (0 + (i : Int))).fmod (n : Int) = c
        have e : oNin (.int c) (.lst (ms.map D.int)) = some (.bl (!decide (c ∈ ms))) := by
          have h := oIn_ints (i := c) (ns := ms) (d := .lst (ms.map D.int)) rfl
          unfold oIn at h
          unfold oNin
          cases em : memD (.int c) (.lst (ms.map D.int)) with
          | none => rw [em] at h; cases h
          | some b =>
            rw [em] at h
            have h : D.bl b = D.bl (decide (c ∈ ms)) := Option.some.inj h
            cases h
            rfl
        rw [e, lft_some, bnd_ret, asB_bl, lft_some, bnd_ret]
        by_cases m : c ∈ ms
        · rw [decide_eq_true m, if_pos m]
          rfl
        · rw [decide_eq_false m, if_neg m, Bool.not_false, if_pos rfl, Dm.app_ok (by rw [List.length_map]; omega), lft_some, bnd_ret, List.map_append]
          rfl
      have grow : ∀ c : Int, 0 ≤ c → c < (n : Int) → c ∉ ms → MG n (j + 1) ((ms ++ [c]).map D.int) := fun c c0 c1 cm => ⟨_, rfl, by
        rw [List.nodup_append]
        exact ⟨nd, by simp, fun x hx y hy => by rw [List.mem_singleton.1 hy]; exact fun e => cm (e ▸ hx)⟩, fun m hm' => by
        rcases List.mem_append.1 hm' with q | q
        · exact hm m q
        · rw [List.mem_singleton.1 q]
          exact ⟨c0, c1⟩, by rw [List.length_append]; exact Nat.succ_le_succ hl, fun _ => by rw [List.length_append]; exact Nat.le_add_left _ _⟩
      by_cases hj0 : j = 0
      · subst hj0
        have ems : ms = [] := List.length_eq_zero_iff.1 (by omega)
        subst ems
        obtain ⟨m, rfl⟩ : ∃ m, n = m + 1 := ⟨n - 1, by omega⟩
        have er : rgD 0 (m + 1) = .int 0 :: (rgD 0 (m + 1)).tail := by
          unfold rgD
          rw [List.range_succ_eq_map]
          rfl
        rw [er] at turn ⊢
        obtain ⟨c, c0, c1, e⟩ := mark_first (f := mkTurn (.int st) (.int ((m + 1 : Nat) : Int))) (n := m + 1) (d := .int 0) (ds := (rgD 0 (m + 1)).tail) (turn _ (by simp))
        refine tk_of (a := [c].map D.int) ?_ (grow c c0 c1 (by simp))
        show bnd (forF un1 (mkTurn (.int st) (.int ((m + 1 : Nat) : Int))) _ []) _ = _
        rw [e, bnd_ret]
        rfl
      · rcases mark_walk (f := mkTurn (.int st) (.int (n : Int))) turn with e | ⟨c, c0, c1, cm, e⟩
        · refine tk_of (a := ms.map D.int) (by
            show bnd (forF un1 (mkTurn (.int st) (.int (n : Int))) _ _) _ = _
            rw [e, bnd_ret]
            rfl) ⟨ms, rfl, nd, hm, by omega, fun _ => hl1 (by omega)⟩
        · exact tk_of (a := (ms ++ [c]).map D.int) (by
            show bnd (forF un1 (mkTurn (.int st) (.int (n : Int))) _ _) _ = _
            rw [e, bnd_ret]
            rfl) (grow c c0 c1 cm)
  · obtain ⟨ms, rfl, nd, hm, hl, hl1⟩ := hs
    exact tk_ret ⟨ms, rfl, hl1 (by omega), by omega, nd, hm⟩
/-- a picture as it is drawn -/
def PG (most : Nat) (out : List D) : Prop := ∃ (n : Nat) (cs : List D) (ps : List IP) (ms : List Int), out = [.lst cs, .lst (ps.map prD), .lst (ms.map D.int)] ∧ 2 ≤ n ∧ n ≤ most ∧ cs.length = n ∧ colL cs ∧ (∀ p ∈ ps, tieG n p) ∧ ps.length ≤ n + 4 ∧ marksG n ms
theorem picture_tk {most w : Nat} (h2 : 2 ≤ most) (h9 : most ≤ 40) (w1 : 1 ≤ w) (w4 : w ≤ 4) : Tk cells (m__law_picture cells [.int (most : Int), .int (w : Int)]) (PG most) := by
  unfold m__law_picture
  simp only [bnd_ret, bnd_bnd, lft_some, List.append_nil, oSub_int]
  refine tk_bnd (take_ok (n := (most : Int) - 1) (by omega) (by omega) hc) fun d hd => ?_
  obtain ⟨k, rfl, k0, k1⟩ := hd
  obtain ⟨n, hn⟩ : ∃ n : Nat, (2 : Int) + k = (n : Int) := ⟨(2 + k).toNat, by omega⟩
  rw [oAdd_int, hn, lft_some, bnd_ret, rg1_ok (by omega) (by omega), lft_some, bnd_ret, Int.toNat_natCast, mkL_ok (by rw [rgD_len]; omega), lft_some, bnd_ret]
  refine tk_bnd (tk_lcAll (un := un1) (P := fun d => ∃ k : Int, d = .int k ∧ 0 ≤ k ∧ k < 100) fun d hd => ⟨_, rfl, colour_tk hc⟩) fun cs hcs => ?_
  obtain ⟨lc, hcs⟩ := hcs
  rw [rgD_len] at lc
  refine tk_bnd (ties_tk hc (n := n) (by omega) (by omega)) fun d hd => ?_
  obtain ⟨ps, rfl, hp, hl⟩ := hd
  refine tk_bnd (marks_tk hc (n := n) (w := w) (by omega) (by omega) w1 w4) fun d hd => ?_
  obtain ⟨ms, rfl, hm⟩ := hd
  rw [mk3]
  exact tk_lft rfl ⟨n, cs, ps, ms, rfl, by omega, by omega, lc, hcs, hp, hl, hm⟩
theorem odd_tk {b : Nat} (h1 : b ≤ 1000) : Tk cells (m__law_odd cells [.int (b : Int)]) (fun d => pln d = true ∧ depD d ≤ 4 ∧ whl d 0 ((b : Int) - 1) = false) := by
  unfold m__law_odd
  have n1 : oNeg (.int 1) = some (.int (-1)) := rfl
  have p12 : oPow (.int 10) (.int 12) = some (.int 1000000000000) := by rfl
  simp only [bnd_ret, bnd_bnd, lft_some, List.append_nil, n1, p12, mk1, mk8, Option.map_some]
  refine tk_bnd (take_ok (n := 9) (by decide) (by decide) hc) fun d hd => ?_
  obtain ⟨k, rfl, k0, k1⟩ := hd
  simp only [oEq_int, oLt_int, asB_bl, lft_some, bnd_ret, oSub_int]
  refine tk_ite (fun _ => ?_) fun c0 => tk_ite (fun _ => ?_) fun c1 => ?_
  · refine tk_bnd (take_ok (n := 1000000000000) (by decide) (by decide) hc) fun d hd => ?_
    obtain ⟨q, rfl, q0, q1⟩ := hd
    refine tk_lft (oAdd_int _ _) ⟨pln_int (by omega), by simp [depD], ?_⟩
    show (decide (0 ≤ (b : Int) + q) && decide ((b : Int) + q ≤ (b : Int) - 1)) = false
    rw [decide_eq_false (by omega : ¬ (b : Int) + q ≤ (b : Int) - 1), Bool.and_false]
  · refine tk_bnd (take_ok (n := 1000000000000) (by decide) (by decide) hc) fun d hd => ?_
    obtain ⟨q, rfl, q0, q1⟩ := hd
    refine tk_lft (oSub_int _ _) ⟨pln_int (by omega), by simp [depD], whl_lt (by omega)⟩
  · have c0 := of_decide_eq_false c0
    have c1 := of_decide_eq_false c1
    refine tk_bnd (P := fun d => ∃ j : Int, d = .int j ∧ 0 ≤ j ∧ j < 8) ?_ fun d hd => ?_
    · exact tk_ite (fun c => by have := of_decide_eq_true c; exact tk_lft (oSub_int _ _) ⟨_, rfl, by omega, by omega⟩) fun _ => tk_ret ⟨6, rfl, by decide, by decide⟩
    · obtain ⟨j, rfl, j0, j1⟩ := hd
      refine tk_ix j0 j1 fun d hd => ?_
      simp only [List.mem_cons, List.not_mem_nil, or_false] at hd
      rcases hd with rfl | rfl | rfl | rfl | rfl | rfl | rfl | rfl
      · exact ⟨by decide +kernel, by decide +kernel, rfl⟩
      · exact ⟨by decide +kernel, by decide +kernel, rfl⟩
      · exact ⟨by decide +kernel, by decide +kernel, rfl⟩
      · exact ⟨by decide +kernel, by decide +kernel, rfl⟩
      · exact ⟨by decide +kernel, by decide +kernel, rfl⟩
      · exact ⟨by decide +kernel, by decide +kernel, rfl⟩
      · refine ⟨pln_int (by omega), by simp [depD], ?_⟩
        show (decide (0 ≤ (b : Int)) && decide ((b : Int) ≤ (b : Int) - 1)) = false
        rw [decide_eq_false (by omega : ¬ (b : Int) ≤ (b : Int) - 1), Bool.and_false]
      · exact ⟨by decide +kernel, by decide +kernel, rfl⟩
theorem rid_tk : Tk cells (m__law_rid cells []) (fun d => Pl d ∧ items d = none) := by
  unfold m__law_rid
  have n1 : oNeg (.int 1) = some (.int (-1)) := rfl
  simp only [bnd_ret, bnd_bnd, lft_some, List.append_nil, n1, mk6]
  refine tk_bnd (take_ok (n := 6) (by decide) (by decide) hc) fun d hd => ?_
  obtain ⟨k, rfl, k0, k1⟩ := hd
  refine tk_ix k0 (by show k < 6; omega) fun d hd => ?_
  simp only [List.mem_cons, List.not_mem_nil, or_false] at hd
  rcases hd with rfl | rfl | rfl | rfl | rfl | rfl <;> exact ⟨trivial, rfl⟩
end
end G_spreadhues_k03_whole_neighbours_and_new

set_option Elab.async false
set_option linter.all false
set_option maxRecDepth 100000
set_option maxHeartbeats 2000000
namespace G_spreadhues_k03_whole_neighbours_and_new
open PySem PySem.Spec PyProof.Rows L2 Dm
theorem cut_dropN {α : Type} (xs : List α) {k : Nat} (h : k ≤ xs.length) : cut xs (some (k : Int)) none = xs.drop k := by
  unfold cut
  rw [HT.sIx_nat, HT.sIx_none, Nat.min_eq_left h]
  exact List.take_of_length_le (by rw [List.length_drop]; omega)
theorem noLs_all : ∀ {l : List D}, (∀ x ∈ l, noL x = true) → noLs l = true
  | [], _ => rfl
  | x :: l, h => by
    rw [noLs, h x (by simp), noLs_all fun y hy => h y (by simp [hy])]
    rfl
theorem lend_ret {S : Type} {d : D} (h : noL d = true) : lendM (ret d : MS S D) = ret d := by
  show (bnd (nex (ret d)) fun d => if noL d = true then ret d else stk : MS S D) = _
  rw [show nex (ret d : MS S D) = ret d from rfl, bnd_ret, if_pos h]
theorem noL_pic {cs : List D} {ts : List IP} {ms : List Int} (h : colL cs) : noL (pic cs ts ms) = true := noLs_all fun x hx => by
  simp only [List.mem_cons, List.not_mem_nil, or_false] at hx
  rcases hx with rfl | rfl | rfl
  · exact noLs_all fun y hy => by
      obtain ⟨k, rfl, _⟩ := h y hy
      rfl
  · exact noLs_all fun y hy => by
      obtain ⟨p, _, rfl⟩ := List.mem_map.1 hy
      rfl
  · exact noLs_all fun y hy => by
      obtain ⟨p, _, rfl⟩ := List.mem_map.1 hy
      rfl
theorem fst_spoilt : ∀ {l : List D} {j n : Nat} {a : D}, colL l → j < l.length → badC a = some () → fstW badC n (l.set j a) = some (n + j, ())
  | [], j, _, _, _, h, _ => by cases h
  | x :: l, 0, n, a, _, _, hb => by
    show fstW badC n (a :: l) = _
    unfold fstW
    rw [hb]
    rfl
  | x :: l, j + 1, n, a, hc, h, hb => by
    obtain ⟨k, rfl, k0, k1⟩ := hc x (by simp)
    have e : badC (.int k) = none := by
      show (if (decide (0 ≤ k) && decide (k ≤ 99)) = true then none else some ()) = _
      rw [decide_eq_true k0, decide_eq_true (by omega : k ≤ 99)]
      rfl
    show fstW badC n (.int k :: l.set j a) = _
    unfold fstW
    rw [e]
    have := fst_spoilt (l := l) (j := j) (n := n + 1) (a := a) (fun y hy => hc y (by simp [hy])) (by simpa using h) hb
    rw [show n + (j + 1) = n + 1 + j by omega]
    exact this
/-- a whole number from 0 below n, as the law asks it -/
theorem good_ok {n : Nat} {d : D} (h : Pl d) : (bnd (lft (oIsA .int d)) fun a => bnd (lft (asB a)) fun a => if a = true then bnd (lft (oIsA .bool d)) fun a => bnd (lft (asB a)) fun a => bnd (lft (asB (.bl (!a)))) fun b => if b = true then bnd (lft ((oLe (.int 0) d).bind asB)) fun k => if k = true then lft (oLt d (.int (n : Int))) else ret (.bl false) else ret (.bl false) else ret (.bl false) : MS Hd D) = ret (.bl (whl d 0 ((n : Int) - 1))) := by
  cases d with
  | obj c fs => exact h.elim
  | int k =>
    rw [show oIsA .int (.int k) = some (.bl true) from rfl, lft_some, bnd_ret, asB_bl, lft_some, bnd_ret, if_pos rfl, show oIsA .bool (.int k) = some (.bl false) from rfl, lft_some, bnd_ret, asB_bl, lft_some, bnd_ret, Bool.not_false, asB_bl, lft_some, bnd_ret, if_pos rfl, oLe_int, Option.bind_some, asB_bl, lft_some, bnd_ret, oLt_int, lft_some]
    show _ = ret (D.bl (decide (0 ≤ k) && decide (k ≤ (n : Int) - 1)))
    by_cases c : 0 ≤ k
    · rw [decide_eq_true c, if_pos rfl, Bool.true_and]
      congr 2
      exact decide_eq_decide.2 (by omega)
    · rw [decide_eq_false c, if_neg Bool.false_ne_true, Bool.false_and]
  | bl b =>
    rw [show oIsA .int (.bl b) = some (.bl true) from rfl, lft_some, bnd_ret, asB_bl, lft_some, bnd_ret, if_pos rfl, show oIsA .bool (.bl b) = some (.bl true) from rfl]
    rfl
  | non => rfl
  | str x => rfl
  | lst ds => rfl
  | tup ds => rfl
  | dct kvs => rfl
  | lnt ds => rfl
theorem good_k {β : Type} {n : Nat} {d : D} {K : D → MS Hd β} (h : Pl d) : (bnd (lft (oIsA .int d)) fun a => bnd (lft (asB a)) fun a => bnd (if a = true then bnd (lft (oIsA .bool d)) fun a => bnd (lft (asB a)) fun a => bnd (lft (asB (.bl (!a)))) fun b => if b = true then bnd (lft ((oLe (.int 0) d).bind asB)) fun k => if k = true then lft (oLt d (.int (n : Int))) else ret (.bl false) else ret (.bl false) else ret (.bl false)) K : MS Hd β) = K (.bl (whl d 0 ((n : Int) - 1))) := by
  have := congrArg (fun m => bnd m K) (good_ok (n := n) h)
  simp only [bnd_bnd, bnd_ret] at this
  exact this
theorem lo_err {i : Int} (h : i.natAbs < 1000000) (w : Str) (hw : pln (.str w) = true) : Lo (.lst [.int i, .str w]) := lo_lst fun d hd => by
  simp only [List.mem_cons, List.not_mem_nil, or_false] at hd
  rcases hd with rfl | rfl
  · exact ⟨pln_int (by omega), by simp [depD]⟩
  · exact ⟨hw, by simp [depD]⟩
/-- the picture that is drawn, as the law holds it -/
def WP (s : List D) : Prop := ∃ (n : Nat) (cs : List D) (ps : List IP) (ms : List Int), s = [.lst cs, .lst (ps.map prD), .lst (ms.map D.int)] ∧ 2 ≤ n ∧ n ≤ 700 ∧ cs.length = n ∧ colL cs ∧ (∀ p ∈ ps, tieG n p) ∧ ps.length < 30 ∧ marksG n ms
theorem law_true (cells : List Int) (tot : Int) (hc : cells.length ≤ 63) : ∃ s, m_law cells ⟨0, 0, tot⟩ = .ok (.bl true) s := by
  have main : Tk cells (m_law cells) (fun d => d = .bl true) := by
    have n1 : oNeg (.int 1) = some (.int (-1)) := rfl
    unfold m_law
    simp only [bnd_ret, bnd_bnd, lft_some, List.append_nil, mk0, mk1, mk2, n1, Option.map_some]
    refine tk_bnd (take_ok (n := 4) (by decide) (by decide) hc) fun d hd => ?_
    obtain ⟨q, rfl, q0, q1⟩ := hd
    obtain ⟨w, hw⟩ : ∃ w : Nat, (1 : Int) + q = (w : Int) := ⟨(1 + q).toNat, by omega⟩
    rw [oAdd_int, hw, lft_some, bnd_ret]
    refine tk_bnd (picture_tk hc (most := 9) (w := w) (by decide) (by decide) (by omega) (by omega)) fun s hs => ?_
    obtain ⟨n, cs, ps, ms, rfl, n2, n9, lc, hcs, hps, lp, hms⟩ := hs
    refine tk_bnd (take_ok (n := 8) (by decide) (by decide) hc) fun d hd => ?_
    obtain ⟨q2, rfl, _, _⟩ := hd
    rw [oEq_int, lft_some, bnd_ret, asB_bl, lft_some, bnd_ret]
    refine tk_bnd (P := WP) ?_ fun s hs => ?_
    · refine tk_ite (fun _ => ?_) fun _ => tk_ret ⟨n, cs, ps, ms, rfl, n2, by omega, lc, hcs, hps, by omega, hms⟩
      have m1 : oMul (.lst [.int 5]) (.int (700 - (cs.length : Int))) = some (.lst (List.replicate (700 - (cs.length : Int)).toNat [D.int 5]).flatten) := if_pos ⟨by show 1 * (700 - (cs.length : Int)).toNat < tooLong; unfold tooLong; omega, by omega⟩
      have fl : (List.replicate (700 - (cs.length : Int)).toNat [D.int 5]).flatten = List.replicate (700 - cs.length) (.int 5) := by
        rw [show (700 - (cs.length : Int)).toNat = 700 - cs.length by omega]
        generalize 700 - cs.length = k
        induction k with
        | zero => rfl
        | succ k ih => rw [List.replicate_succ, List.flatten_cons, ih]; rfl
      have a1 : oAdd (.lst cs) (.lst (List.replicate (700 - cs.length) (.int 5))) = some (.lst (cs ++ List.replicate (700 - cs.length) (.int 5))) := if_pos (by rw [List.length_replicate]; unfold tooLong; omega)
      simp only [show oIx (.lst [.lst cs, .lst (ps.map prD), .lst (ms.map D.int)]) (.int 0) = some (.lst cs) from rfl, lft_some, bnd_ret, oLen_lst, oSub_int, m1, fl, a1, show ∀ x, set1 [.lst cs, .lst (ps.map prD), .lst (ms.map D.int)] (.int 0) x = some [x, .lst (ps.map prD), .lst (ms.map D.int)] from fun _ => rfl]
      simp only [show ∀ x, oIx (.lst [x, .lst (ps.map prD), .lst (ms.map D.int)]) (.int 1) = some (.lst (ps.map prD)) from fun _ => rfl, lft_some, bnd_ret]
      refine tk_bnd (take_ok (n := 699) (by decide) (by decide) hc) fun d hd => ?_
      obtain ⟨y, rfl, y0, y1⟩ := hd
      have a2 : oAdd (.lst (ps.map prD)) (.lst [.tup [.int 699, .int 0], .tup [.int y, .int 699]]) = some (.lst ((ps ++ [((699 : Int), (0 : Int)), (y, (699 : Int))]).map prD)) := by
        rw [List.map_append]
        exact if_pos (by rw [List.length_map]; show ps.length + 2 < tooLong; unfold tooLong; omega)
      simp only [mk2, Option.map_some, lft_some, bnd_ret, a2, show ∀ x z, set1 [x, .lst (ps.map prD), .lst (ms.map D.int)] (.int 1) z = some [x, z, .lst (ms.map D.int)] from fun _ _ => rfl]
      refine tk_ret ⟨700, _, _, ms, rfl, by decide, by decide, by rw [List.length_append, List.length_replicate]; omega, fun d hd => ?_, fun p hp => ?_, by rw [List.length_append]; show ps.length + 2 < 30; omega, hms.1, hms.2.1, hms.2.2.1, fun m hm => by have := hms.2.2.2 m hm; omega⟩
      · rcases List.mem_append.1 hd with q | q
        · exact hcs d q
        · rw [(List.mem_replicate.1 q).2]
          exact ⟨5, rfl, by decide, by decide⟩
      · rcases List.mem_append.1 hp with q | q
        · have := hps p q
          unfold tieG at *
          omega
        · simp only [List.mem_cons, List.not_mem_nil, or_false] at q
          rcases q with rfl | rfl <;> (unfold tieG; dsimp only; omega)
    · clear hw lc hcs hps lp hms n2 n9
      obtain ⟨n, cs, ps, ms, rfl, n2, n7, lc, hcs, hps, lp, hms⟩ := hs
      subst lc
      have i0 : ∀ x y z : D, oIx (.lst [x, y, z]) (.int 0) = some x := fun _ _ _ => rfl
      have i1 : ∀ x y z : D, oIx (.lst [x, y, z]) (.int 1) = some y := fun _ _ _ => rfl
      have i2 : ∀ x y z : D, oIx (.lst [x, y, z]) (.int 2) = some z := fun _ _ _ => rfl
      have hcl := hcs.ok (by omega) n7
      have pc : Pc cs (tiesP ps) ms := pc_made hcl hcs.pl hps (by omega) hms
      have hts := pc.ties
      have lts := tiesP_len ps
      have em : oMin2 (.int (cs.length : Int)) (.int 12) = some (.int ((min cs.length 12 : Nat) : Int)) := by
        show some (D.int (if (12 : Int) < (cs.length : Int) then 12 else (cs.length : Int))) = _
        congr 2
        split <;> omega
      have er : rgL (.int ((min cs.length 12 : Nat) : Int)) = some (rgD 0 (min cs.length 12)) := by
        show (if ((min cs.length 12 : Nat) : Int).natAbs < 1000000 then some (rgD 0 ((min cs.length 12 : Nat) : Int).toNat) else none) = _
        rw [if_pos (by omega), Int.toNat_natCast]
      have ea : oAdd (.lst (rgD 0 (min cs.length 12))) (.lst [.int ((cs.length : Int) - 1)]) = some (.lst (rgD 0 (min cs.length 12) ++ [.int ((cs.length : Int) - 1)])) := if_pos (by rw [rgD_len]; show min cs.length 12 + 1 < tooLong; unfold tooLong; omega)
      simp only [i0, i1, i2, lft_some, bnd_ret, oLen_lst, made_ok Hd (P := .lst [.lst cs, .lst (ps.map prD), .lst (ms.map D.int)]) (cs := cs) (ps := ps) (ms := ms) rfl rfl rfl rfl rfl rfl hcl hcs.pl hps (by omega) hms, least_ok Hd (n := cs.length) (d := .lst (ps.map prD)) rfl hps (by omega) (by omega), lawnear_ok Hd (n := cs.length) (d := .tup ((tiesP ps).map prD)) rfl hts (by omega) (by omega), em, er, oSub_int, mk1, ea, show ∀ l, items (.lst l) = some l from fun _ => rfl]
      rw [forF_all (un := un1) (fun d hd => ⟨d, rfl, ?_⟩), bnd_ret]
      rotate_left
      · obtain ⟨c, rfl, hcn⟩ : ∃ c : Nat, d = .int (c : Int) ∧ c < cs.length := by
          rcases List.mem_append.1 hd with q | q
          · obtain ⟨i, hi, rfl⟩ := List.mem_map.1 q
            have hi := List.mem_range.1 hi
            exact ⟨i, by rw [Int.zero_add], by omega⟩
          · rw [List.mem_singleton.1 q]
            exact ⟨cs.length - 1, by congr 1; omega, by omega⟩
        have wh := whl_in (k := (c : Int)) (n := cs.length) (by omega) (by omega)
        have asc := nbs_asc hts (tiesP_asc ps) (c : Int)
        have bd : ∀ i ∈ nbs (tiesP ps) (c : Int), i.natAbs < 1000000000000000000000000000000 := fun i hi => by
          have := nbs_bd hts hi
          omega
        have ix : oIx (.lst ((nbQ cs.length (tiesP ps)).map D.lst)) (.int (c : Int)) = some (.lst ((nbs (tiesP ps) (c : Int)).map D.int)) := ixI rfl (by rw [List.getElem?_map, nbQ_get _ hcn]; rfl)
        have so : oSorted (.lst ((nbs (tiesP ps) (c : Int)).map D.int)) = some ((nbs (tiesP ps) (c : Int)).map D.int) := by
          unfold oSorted
          dsimp only
          rw [intsD_map]
          show some ((sortJ _).map D.int) = _
          rw [sortJ_asc asc]
        have ll := nbs_len (tiesP ps) (c : Int)
        rw [nearof_ok Hd pc (show Pl (.int (c : Int)) from trivial), if_pos wh, bnd_ret, ix, lft_some, bnd_ret, so, lft_some, bnd_ret, show oTuple (.lst ((nbs (tiesP ps) (c : Int)).map D.int)) = some (.tup ((nbs (tiesP ps) (c : Int)).map D.int)) from rfl, lft_some, bnd_ret, show nbD (tiesP ps) (.int (c : Int)) = .tup ((nbs (tiesP ps) (c : Int)).map D.int) from rfl, ne_self (lo_tup (lo_ints bd)), lft_some, bnd_ret, asB_bl, lft_some, bnd_ret, if_neg Bool.false_ne_true, tuples_ok Hd 5 (tq_ints 3 (by omega)), bnd_ret, tru_bl, lft_some, bnd_ret, Bool.not_true, if_neg Bool.false_ne_true, cell_ok Hd (by omega) (show Pl (.int (c : Int)) from trivial), if_pos wh, bnd_ret, ne_self (lo_int (by omega)), lft_some, bnd_ret, asB_bl, lft_some, bnd_ret, if_neg Bool.false_ne_true]
      rw [show (frD : (Unit → MS Hd D) → Fr Unit → MS Hd D) = frD from rfl]
      simp only [frD]
      refine tk_bnd (odd_tk hc (b := cs.length) (by omega)) fun o ho => ?_
      obtain ⟨o1, o2, o3⟩ := ho
      simp only [mk5, lft_some, bnd_ret]
      have wb : ∀ i : Int, (i < 0 ∨ (cs.length : Int) ≤ i) → whl (.int i) 0 ((cs.length : Int) - 1) = false := fun i hi => by
        show (decide (0 ≤ i) && decide (i ≤ (cs.length : Int) - 1)) = false
        rcases hi with hi | hi
        · rw [decide_eq_false (by omega), Bool.false_and]
        · rw [decide_eq_false (by omega : ¬ i ≤ (cs.length : Int) - 1), Bool.and_false]
      have bad5 : ∀ d ∈ [.int (cs.length : Int), .int (-1), .bl true, .non, o], (pln d = true ∧ depD d ≤ 4) ∧ whl d 0 ((cs.length : Int) - 1) = false := fun d hd => by
        simp only [List.mem_cons, List.not_mem_nil, or_false] at hd
        rcases hd with rfl | rfl | rfl | rfl | rfl
        · exact ⟨⟨pln_int (by omega), by simp [depD]⟩, wb _ (.inr (Int.le_refl _))⟩
        · exact ⟨⟨pln_int (by decide), by simp [depD]⟩, wb _ (.inl (by decide))⟩
        · exact ⟨⟨rfl, by simp [depD]⟩, rfl⟩
        · exact ⟨⟨rfl, by simp [depD]⟩, rfl⟩
        · exact ⟨⟨o1, o2⟩, o3⟩
      rw [forF_all (un := un1) (fun d hd => ⟨d, rfl, ?_⟩), bnd_ret]
      rotate_left
      · obtain ⟨lo, wh⟩ := bad5 d hd
        have nw : ¬ whl d 0 ((cs.length : Int) - 1) = true := by rw [wh]; exact Bool.false_ne_true
        rw [cell_ok Hd (by omega) (Pl.of lo.1), if_neg nw, bnd_ret, show D.lst [.str "refused", d] = ref d from rfl, ne_self (lo_ref lo), lft_some, bnd_ret, asB_bl, lft_some, bnd_ret, if_neg Bool.false_ne_true, nearof_ok Hd pc (Pl.of lo.1), if_neg nw, bnd_ret, ne_self (lo_ref lo), lft_some, bnd_ret, asB_bl, lft_some, bnd_ret, if_neg Bool.false_ne_true]
      simp only [i0, i1, i2, lft_some, bnd_ret, oLen_lst, List.length_map, oSub_int]
      have hm1 := hms.1
      have hm4 := hms.2.1
      refine tk_bnd (odd_tk hc (b := ms.length) (by omega)) fun o' ho' => ?_
      obtain ⟨o1', o2', o3'⟩ := ho'
      simp only [mk7, lft_some, bnd_ret]
      have lo7 : ∀ d ∈ [D.int 0, .int ((ms.length : Int) - 1), .int (ms.length : Int), .int (-1), .bl true, .non, o'], pln d = true ∧ depD d ≤ 4 := fun d hd => by
        simp only [List.mem_cons, List.not_mem_nil, or_false] at hd
        rcases hd with rfl | rfl | rfl | rfl | rfl | rfl | rfl
        · exact ⟨pln_int (by decide), by simp [depD]⟩
        · exact ⟨pln_int (by omega), by simp [depD]⟩
        · exact ⟨pln_int (by omega), by simp [depD]⟩
        · exact ⟨pln_int (by decide), by simp [depD]⟩
        · exact ⟨rfl, by simp [depD]⟩
        · exact ⟨rfl, by simp [depD]⟩
        · exact ⟨o1', o2'⟩
      rw [forF_all (un := un1) (fun d hd => ⟨d, rfl, ?_⟩), bnd_ret]
      rotate_left
      · have lo := lo7 d hd
        rw [good_k (n := ms.length) (Pl.of lo.1), mark_ok Hd (Pl.of lo.1), bnd_ret, tru_bl, lft_some, bnd_ret]
        cases whl d 0 ((ms.length : Int) - 1)
        · rw [if_neg Bool.false_ne_true, if_neg Bool.false_ne_true, bnd_ret, show D.lst [.str "refused", d] = ref d from rfl, ne_self (lo_ref lo), lft_some, bnd_ret, asB_bl, lft_some, bnd_ret, if_neg Bool.false_ne_true]
        · rw [if_pos rfl, if_pos rfl, bnd_ret, ne_self (show Lo d from ⟨lo.1, by have := lo.2; omega⟩), lft_some, bnd_ret, asB_bl, lft_some, bnd_ret, if_neg Bool.false_ne_true]
      simp only [frD]
      rw [oLt_int, lft_some, bnd_ret, asB_bl, lft_some, bnd_ret, rg1_ok (by omega) (by omega), lft_some, bnd_ret, Int.toNat_natCast, mkL_ok (by rw [rgD_len]; omega), lft_some, bnd_ret]
      refine tk_bnd (P := fun d => ∃ l, d = .lst l ∧ l.length = cs.length ∧ colL l) ?_ fun d hd => ?_
      · refine tk_ite (fun _ => ?_) fun _ => ?_
        · refine tk_bnd (tk_lcAll (un := un1) (P := fun d => ∃ k : Int, d = .int k ∧ 0 ≤ k ∧ k < 100) fun d hd => ⟨_, rfl, colour_tk hc⟩) fun l hl => ?_
          exact tk_ret ⟨l, rfl, by rw [hl.1, rgD_len], hl.2⟩
        · rw [bnd_ret, mkL_ok (by rw [rgD_len]; omega), lft_some, bnd_ret]
          refine tk_bnd (tk_lcAll (un := un1) (P := fun d => ∃ k : Int, d = .int k ∧ 0 ≤ k ∧ k < 100) fun d hd => ⟨_, rfl, ?_⟩) fun l hl => ?_
          · obtain ⟨i, hi, rfl⟩ := List.mem_map.1 hd
            obtain ⟨f0, f1⟩ := fmod_in (i := 0 + (i : Int)) (j := 100) (by decide)
            rw [oIntOf_int, lft_some, bnd_ret]
            exact tk_lft (mod_pos (by decide)) ⟨_, rfl, f0, f1⟩
          · exact tk_ret ⟨l, rfl, by rw [hl.1, rgD_len], hl.2⟩
      · obtain ⟨l, rfl, ll, hl⟩ := hd
        have hlc := hl.ok (by omega) (by omega)
        have nw := new_ret Hd (withc_ok Hd pc (d := .lnt l) rfl ll hlc hl.pl)
        have sm := same_ok Hd (P := .lst [.lst l, .lst (ps.map prD), .lst (ms.map D.int)]) (cs := l) (ps := ps) (ms := ms) rfl rfl rfl rfl rfl rfl hl (by omega) (by rw [ll]; exact hps) (by omega) (by rw [ll]; exact hms)
        simp only [show items (.lst l) = some l from rfl, lft_some, bnd_ret, nw, lend_ret (noL_pic (ts := tiesP ps) (ms := ms) hl), mk3, sm, tru_bl, Bool.not_true, Bool.false_eq_true, if_false, ne_self (lo_lst hl.lo), asB_bl]
        refine tk_bnd (take_ok (n := (cs.length : Int)) (by omega) (by omega) hc) fun d hd => ?_
        obtain ⟨ja, rfl, j0, j1⟩ := hd
        obtain ⟨j, rfl⟩ := Int.eq_ofNat_of_zero_le j0
        have odd100 := odd_tk hc (b := 100) (by decide)
        rw [show ((100 : Nat) : Int) = 100 from rfl] at odd100
        refine tk_bnd odd100 fun x hx => ?_
        obtain ⟨x1, x2, x3⟩ := hx
        have hj : j < l.length := by omega
        have es : set1 l (.int (j : Int)) x = some (l.set j x) := by
          unfold set1
          dsimp only
          rw [show ixN l.length (j : Int) = some j by unfold ixN; rw [if_pos (by omega), if_pos (by omega)]; rfl]
        have bx : badC x = some () := by
          unfold badC
          rw [isCol_whl]
          rw [show whl x 0 99 = false from x3, if_neg Bool.false_ne_true]
        have cb : cellsF (l.set j x) = some (j, ("colour" : Str)) := by
          unfold cellsF
          rw [List.length_set, if_pos (by omega), fst_spoilt hl hj bx, Nat.zero_add]
          rfl
        have nb := new_rse Hd (P := pic cs (tiesP ps) ms) (withc_bad Hd pc (d := .lnt (l.set j x)) rfl (by rw [List.length_set]; exact ll) cb fun y hy => by
          rcases List.mem_or_eq_of_mem_set hy with q | q
          · exact hl.pl y q
          · rw [q]
            exact Pl.of x1)
        have noe : noL (.lst [.int (j : Int), .str "colour"]) = true := rfl
        have le := lo_err (i := (j : Int)) (by omega) "colour" (by decide +kernel)
        have le0 := lo_err (i := 0) (by decide) "cells" (by decide +kernel)
        have d1 : oSl (.lst l) (some 1) none = some (.lst (l.drop 1)) := by
          rw [← cut_drop]
          rfl
        have nd := new_rse Hd (P := pic cs (tiesP ps) ms) (withc_len Hd (ts := tiesP ps) (ms := ms) (d := .lst (l.drop 1)) rfl (by rw [List.length_drop]; omega) (by omega : cs.length < 1000))
        have na := new_rse Hd (P := pic cs (tiesP ps) ms) (withc_len Hd (ts := tiesP ps) (ms := ms) (d := .lst (l ++ [.int 0])) rfl (by rw [List.length_append]; show l.length + 1 ≠ _; omega) (by omega : cs.length < 1000))
        have a0 : oAdd (.lst l) (.lst [.int 0]) = some (.lst (l ++ [.int 0])) := if_pos (by show l.length + 1 < tooLong; unfold tooLong; omega)
        simp only [es, lft_some, bnd_ret, nb, lend_ret noe, ne_self le, asB_bl, sm, tru_bl, Bool.not_true, Bool.false_eq_true, if_false, show oInt? (.int 1) = some (some 1) from rfl, d1, nd, na, a0, ne_self le0]
        refine tk_bnd (P := fun b => b = false) ?_ fun b hb => ?_
        · refine tk_bnd (rid_tk hc) fun d hd => ?_
          rw [new_rse Hd (withc_no Hd (cs := cs) (ts := tiesP ps) (ms := ms) hd.1 hd.2), bnd_ret, ne_self le0, lft_some, bnd_ret]
          exact tk_lft (asB_bl _) rfl
        · subst hb
          rw [if_neg Bool.false_ne_true]
          refine tk_bnd (take_ok (n := 4) (by decide) (by decide) hc) fun d hd => ?_
          obtain ⟨q', rfl, q0', q1'⟩ := hd
          obtain ⟨w', hw'⟩ : ∃ w : Nat, (1 : Int) + q' = (w : Int) := ⟨(1 + q').toNat, by omega⟩
          rw [oAdd_int, hw', lft_some, bnd_ret]
          refine tk_bnd (marks_tk hc (n := cs.length) (w := w') (by omega) (by omega) (by omega) (by omega)) fun d hd => ?_
          obtain ⟨ns, rfl, hns⟩ := hd
          have n1' := hns.1
          have n4' := hns.2.1
          have mv := moved_ret Hd (withm_ok Hd pc (ns := ns) (d := .tup (ns.map D.int)) rfl hns)
          have sm2 := same_ok Hd (P := .lst [.lst cs, .lst (ps.map prD), .lst (ns.map D.int)]) (cs := cs) (ps := ps) (ms := ns) rfl rfl rfl rfl rfl rfl hcs (by omega) hps (by omega) hns
          simp only [show oTuple (.lst (ns.map D.int)) = some (.tup (ns.map D.int)) from rfl, lft_some, bnd_ret, mv, i0, i1, mk3, sm2, tru_bl, Bool.not_true, Bool.false_eq_true, if_false, oLen_lst, List.length_map]
          refine tk_bnd (take_ok (n := (ns.length : Int)) (by omega) (by omega) hc) fun d hd => ?_
          obtain ⟨ja, rfl, a0', a1'⟩ := hd
          obtain ⟨at_, rfl⟩ := Int.eq_ofNat_of_zero_le a0'
          have hat : at_ < ns.length := by omega
          have t1 : oSl (.lst (ns.map D.int)) none (some (at_ : Int)) = some (.lst ((ns.take at_).map D.int)) := by
            rw [List.map_take, ← cut_takeN]
            rfl
          have t2 : oSl (.lst (ns.map D.int)) (some ((at_ : Int) + 1)) none = some (.lst ((ns.drop (at_ + 1)).map D.int)) := by
            rw [List.map_drop, ← cut_dropN (ns.map D.int) (k := at_ + 1) (by rw [List.length_map]; omega)]
            rfl
          rw [show oInt? (.int (at_ : Int)) = some (some (at_ : Int)) from rfl, lft_some, bnd_ret, t1, lft_some, bnd_ret]
          refine tk_bnd (odd_tk hc (b := cs.length) (by omega)) fun y hy => ?_
          obtain ⟨y1, y2, y3⟩ := hy
          have lt := List.length_take (i := at_) (l := ns)
          have ld := List.length_drop (i := at_ + 1) (l := ns)
          have b1 : oAdd (.lst ((ns.take at_).map D.int)) (.lst [y]) = some (.lst ((ns.take at_).map D.int ++ [y])) := if_pos (by rw [List.length_map]; show (ns.take at_).length + 1 < tooLong; unfold tooLong; omega)
          have b2 : oAdd (.lst ((ns.take at_).map D.int ++ [y])) (.lst ((ns.drop (at_ + 1)).map D.int)) = some (.lst ((ns.take at_).map D.int ++ y :: (ns.drop (at_ + 1)).map D.int)) := by
            have : oAdd (.lst ((ns.take at_).map D.int ++ [y])) (.lst ((ns.drop (at_ + 1)).map D.int)) = some (.lst (((ns.take at_).map D.int ++ [y]) ++ (ns.drop (at_ + 1)).map D.int)) := if_pos (by rw [List.length_append, List.length_map, List.length_map]; show (ns.take at_).length + 1 + (ns.drop (at_ + 1)).length < tooLong; unfold tooLong; omega)
            rw [this, List.append_assoc]
            rfl
          have mb := moved_rse Hd (P := pic cs (tiesP ps) ms) (withm_bad Hd pc ((marks_go Hd (n := cs.length) (ms := ns.take at_) (post := y :: (ns.drop (at_ + 1)).map D.int) (d := .lst ((ns.take at_).map D.int ++ y :: (ns.drop (at_ + 1)).map D.int)) rfl (by rw [List.length_cons, List.length_map]; omega) (by rw [List.length_cons]; omega) (hns.2.2.1.sublist (List.take_sublist _ _)) (fun m hm => hns.2.2.2 m (List.mem_of_mem_take hm))).2 y _ rfl (Pl.of y1) (.inl y3)))
          rw [show (ns.take at_).length = at_ by omega] at mb
          obtain ⟨m0, mr, rfl⟩ : ∃ m0 mr, ns = m0 :: mr := by
            cases ns with
            | nil => exact absurd n1' (by decide)
            | cons a b => exact ⟨a, b, rfl⟩
          have t3 : oSl (.lst ((m0 :: mr).map D.int)) none (some 1) = some (.lst [.int m0]) := by
            have := cut_takeN ((m0 :: mr).map D.int) 1
            show some (D.lst (cut ((m0 :: mr).map D.int) none (some ((1 : Nat) : Int)))) = _
            rw [this]
            rfl
          have t4 : oMul (.lst [.int m0]) (.int 2) = some (.lst [.int m0, .int m0]) := by
            show (if [D.int m0].length * (2 : Int).toNat < tooLong ∧ (2 : Int).natAbs < 2305843009213693952 then some (D.lst (List.replicate (2 : Int).toNat [D.int m0]).flatten) else none) = _
            rw [if_pos ⟨by show 1 * 2 < tooLong; unfold tooLong; decide, by decide⟩]
            rfl
          have hm0 := hns.2.2.2 m0 (by simp)
          have m2 := moved_rse Hd (P := pic cs (tiesP ps) ms) (withm_bad Hd pc ((marks_go Hd (n := cs.length) (ms := [m0]) (post := [.int m0]) (d := .lst [.int m0, .int m0]) rfl (by show 1 + 1 ≤ 4; decide) (by show 1 ≤ 1 + 1; decide) (by simp) (fun m hm => by rw [List.mem_singleton.1 hm]; exact hm0)).2 (.int m0) _ rfl trivial (.inr ⟨m0, rfl, by simp⟩)))
          have m3 := moved_rse Hd (P := pic cs (tiesP ps) ms) (withm_bad Hd pc (marks_len Hd (n := cs.length) (d := .lst []) rfl (by decide)))
          have m5 := moved_rse Hd (P := pic cs (tiesP ps) ms) (withm_bad Hd pc (marks_len Hd (n := cs.length) (d := .lst [.int 0, .int 1, .int 2, .int 3, .int 4]) rfl (by decide)))
          have l1 := lo_err (i := (at_ : Int)) (by omega) "mark" (by decide +kernel)
          have l2 := lo_err (i := 1) (by decide) "mark" (by decide +kernel)
          have l3 := lo_err (i := 0) (by decide) "marks" (by decide +kernel)
          have same0 := same_ok Hd (P := .lst [.lst cs, .lst (ps.map prD), .lst (ms.map D.int)]) (cs := cs) (ps := ps) (ms := ms) rfl rfl rfl rfl rfl rfl hcs (by omega) hps (by omega) hms
          simp only [mk1, lft_some, bnd_ret, b1, oAdd_int, show ∀ i : Int, oInt? (.int i) = some (some i) from fun _ => rfl, t2, b2, mb, ne_self l1, asB_bl, Bool.false_eq_true, if_false, t3, t4, m2, show ([m0] : List Int).length = 1 from rfl, show ((1 : Nat) : Int) = 1 from rfl, ne_self l2, m3, ne_self l3]
          refine tk_bnd (P := fun b => b = false) ?_ fun b hb => ?_
          · refine tk_bnd (rid_tk hc) fun d hd => ?_
            rw [moved_rse Hd (withm_bad Hd pc (marks_no Hd (n := cs.length) hd.1 hd.2)), bnd_ret, ne_self l3, lft_some, bnd_ret]
            exact tk_lft (asB_bl _) rfl
          · subst hb
            rw [if_neg Bool.false_ne_true, oGt_int, lft_some, bnd_ret, asB_bl, lft_some, bnd_ret, m5, bnd_ret, ne_self l3, lft_some, bnd_ret, asB_bl, lft_some]
            refine tk_bnd (P := fun b => b = false) (tk_ite (fun _ => tk_ret rfl) fun _ => tk_ret rfl) fun b hb => ?_
            subst hb
            rw [if_neg Bool.false_ne_true, same0]
            exact tk_ret rfl
  obtain ⟨a, s, e, _, rfl⟩ := main ⟨0, 0, tot⟩ ⟨Int.le_refl _, by show (0 : Int) ≤ _; omega, Int.le_refl _⟩
  exact ⟨s, e⟩
end G_spreadhues_k03_whole_neighbours_and_new

namespace G_spreadhues_k03_whole_neighbours_and_new
open PySem PySem.Spec PyProof.Rows L2 Dm
theorem all_mk {l : PySem.W.OpenLaw} {w : World} {K : PySem.W.Frag} {h : Heap} {mg : Str → Option Value} {fa f0 f1 f2 f3 f4 f5 f6 f7 f8 f9 f10 f11 f12 f13 f14 f15 f16 f17 f18 f19 f20 f21 f22 f23 f24 f25 f26 f27 f28 f29 f30 f31 f32 f33 f34 C0 C1 C2 C3 C4 I0 I1 I2 q0 M0 M1 : Addr}
    (hm : ∀ (cells : List Int) (tot : Int), cells.length ≤ 63 → ∃ s, m_law cells ⟨0, 0, tot⟩ = .ok (.bl true) s) (X : K.In h) (G : h.Ns mainGlobals mg) (hfa : mg "law" = some (.ref fa))
    {od0 an0 : Option Addr} {sl0 : Array (Option Value)} {oc0 kV0 dc0 pm0 cd0 ct0 : Value}
    {qc0 : Value} {qd0 : Option Addr} {qn0 : Nat} {qs0 : Array (Option Value)}
    {od1 an1 : Option Addr} {sl1 : Array (Option Value)} {oc1 kV1 dc1 pm1 cd1 ct1 : Value}
    {od2 an2 : Option Addr} {sl2 : Array (Option Value)} {oc2 kV2 dc2 pm2 cd2 ct2 : Value}
    {od3 an3 : Option Addr} {sl3 : Array (Option Value)} {oc3 kV3 dc3 pm3 cd3 ct3 : Value}
    {od4 an4 : Option Addr} {sl4 : Array (Option Value)} {oc4 kV4 dc4 pm4 cd4 ct4 : Value}
    {od5 an5 : Option Addr} {sl5 : Array (Option Value)} {oc5 kV5 dc5 pm5 cd5 ct5 : Value}
    {od6 an6 : Option Addr} {sl6 : Array (Option Value)} {oc6 kV6 dc6 pm6 cd6 ct6 : Value}
    {od7 an7 : Option Addr} {sl7 : Array (Option Value)} {oc7 kV7 dc7 pm7 cd7 ct7 : Value}
    {od8 an8 : Option Addr} {sl8 : Array (Option Value)} {oc8 kV8 dc8 pm8 cd8 ct8 : Value}
    {od9 an9 : Option Addr} {sl9 : Array (Option Value)} {oc9 kV9 dc9 pm9 cd9 ct9 : Value}
    {od10 an10 : Option Addr} {sl10 : Array (Option Value)} {oc10 kV10 dc10 pm10 cd10 ct10 : Value}
    {od11 an11 : Option Addr} {sl11 : Array (Option Value)} {oc11 kV11 dc11 pm11 cd11 ct11 : Value}
    {od12 an12 : Option Addr} {sl12 : Array (Option Value)} {oc12 kV12 dc12 pm12 cd12 ct12 : Value}
    {od13 an13 : Option Addr} {sl13 : Array (Option Value)} {oc13 kV13 dc13 pm13 cd13 ct13 : Value}
    {od14 an14 : Option Addr} {sl14 : Array (Option Value)} {oc14 kV14 dc14 pm14 cd14 ct14 : Value}
    {od15 an15 : Option Addr} {sl15 : Array (Option Value)} {oc15 kV15 dc15 pm15 cd15 ct15 : Value}
    {od16 an16 : Option Addr} {sl16 : Array (Option Value)} {oc16 kV16 dc16 pm16 cd16 ct16 : Value}
    {od17 an17 : Option Addr} {sl17 : Array (Option Value)} {oc17 kV17 dc17 pm17 cd17 ct17 : Value}
    {od18 an18 : Option Addr} {sl18 : Array (Option Value)} {oc18 kV18 dc18 pm18 cd18 ct18 : Value}
    {od19 an19 : Option Addr} {sl19 : Array (Option Value)} {oc19 kV19 dc19 pm19 cd19 ct19 : Value}
    {od20 an20 : Option Addr} {sl20 : Array (Option Value)} {oc20 kV20 dc20 pm20 cd20 ct20 : Value}
    {od21 an21 : Option Addr} {sl21 : Array (Option Value)} {oc21 kV21 dc21 pm21 cd21 ct21 : Value}
    {od22 an22 : Option Addr} {sl22 : Array (Option Value)} {oc22 kV22 dc22 pm22 cd22 ct22 : Value}
    {od23 an23 : Option Addr} {sl23 : Array (Option Value)} {oc23 kV23 dc23 pm23 cd23 ct23 : Value}
    {od24 an24 : Option Addr} {sl24 : Array (Option Value)} {oc24 kV24 dc24 pm24 cd24 ct24 : Value}
    {od25 an25 : Option Addr} {sl25 : Array (Option Value)} {oc25 kV25 dc25 pm25 cd25 ct25 : Value}
    {od26 an26 : Option Addr} {sl26 : Array (Option Value)} {oc26 kV26 dc26 pm26 cd26 ct26 : Value}
    {od27 an27 : Option Addr} {sl27 : Array (Option Value)} {oc27 kV27 dc27 pm27 cd27 ct27 : Value}
    {od28 an28 : Option Addr} {sl28 : Array (Option Value)} {oc28 kV28 dc28 pm28 cd28 ct28 : Value}
    {od29 an29 : Option Addr} {sl29 : Array (Option Value)} {oc29 kV29 dc29 pm29 cd29 ct29 : Value}
    {od30 an30 : Option Addr} {sl30 : Array (Option Value)} {oc30 kV30 dc30 pm30 cd30 ct30 : Value}
    {od31 an31 : Option Addr} {sl31 : Array (Option Value)} {oc31 kV31 dc31 pm31 cd31 ct31 : Value}
    {od32 an32 : Option Addr} {sl32 : Array (Option Value)} {oc32 kV32 dc32 pm32 cd32 ct32 : Value}
    {od33 an33 : Option Addr} {sl33 : Array (Option Value)} {oc33 kV33 dc33 pm33 cd33 ct33 : Value}
    {od34 an34 : Option Addr} {sl34 : Array (Option Value)} {oc34 kV34 dc34 pm34 cd34 ct34 : Value}
    {nmC0 qnC0 : Str} {N0 : Addr} {bs0 bm0 : List Value} {sn0 : List Str} {sub0 : List Value} {ab0 : Bool} {col0 : Option Bool} {dd0 : Option Addr} {m00 m10 m20 m30 m50 : Option Value}
    {odI0 anI0 : Option Addr} {slI0 : Array (Option Value)} {ocI0 kVI0 dcI0 pmI0 cdI0 ctI0 : Value}
    {nmC1 qnC1 : Str} {N1 : Addr} {bs1 bm1 : List Value} {sn1 : List Str} {sub1 : List Value} {ab1 : Bool} {col1 : Option Bool} {dd1 : Option Addr} {m01 m11 m21 m31 m51 : Option Value}
    {odI1 anI1 : Option Addr} {slI1 : Array (Option Value)} {ocI1 kVI1 dcI1 pmI1 cdI1 ctI1 : Value}
    {nmC2 qnC2 : Str} {N2 : Addr} {bs2 bm2 : List Value} {sn2 : List Str} {sub2 : List Value} {ab2 : Bool} {col2 : Option Bool} {dd2 : Option Addr} {m02 m12 m22 m32 m52 : Option Value}
    {odI2 anI2 : Option Addr} {slI2 : Array (Option Value)} {ocI2 kVI2 dcI2 pmI2 cdI2 ctI2 : Value}
    {odM0 anM0 : Option Addr} {slM0 : Array (Option Value)} {ocM0 kVM0 dcM0 pmM0 cdM0 ctM0 : Value}
    {odM1 anM1 : Option Addr} {slM1 : Array (Option Value)} {ocM1 kVM1 dcM1 pmM1 cdM1 ctM1 : Value}
    {ct_MOST_COLOUR : Tok}
    {ct_MOST_MARKS : Tok}
    {ct_MOST_CELLS : Tok}
    {ct_MOST_TIES : Tok}
    (a0 : PySem.W.nsIn K mainGlobals "is_whole" = some (some (.ref f0)))
    (l0 : K.lookup f0 = some ⟨oc0, od0, .func (PySem.W.fnOf "is_whole" "is_whole" (defArgs s_is_whole) (defBody s_is_whole) (defScope s_is_whole) (.ref q0) kV0 dc0 pm0 an0 cd0 ct0), sl0⟩)
    (c0 : PySem.W.codeIn K cd0 "is_whole" = true)
    (k0 : PySem.W.keepIn K (.ref f0) = true)
    (q0l : K.lookup q0 = some ⟨qc0, qd0, .seq #[.none, .none] qn0, qs0⟩)
    (a1 : PySem.W.nsIn K mainGlobals "is_sequence" = some (some (.ref f1)))
    (l1 : K.lookup f1 = some ⟨oc1, od1, .func (PySem.W.fnOf "is_sequence" "is_sequence" (defArgs s_is_sequence) (defBody s_is_sequence) (defScope s_is_sequence) .none kV1 dc1 pm1 an1 cd1 ct1), sl1⟩)
    (c1 : PySem.W.codeIn K cd1 "is_sequence" = true)
    (k1 : PySem.W.keepIn K (.ref f1) = true)
    (a2 : PySem.W.nsIn K mainGlobals "is_couple" = some (some (.ref f2)))
    (l2 : K.lookup f2 = some ⟨oc2, od2, .func (PySem.W.fnOf "is_couple" "is_couple" (defArgs s_is_couple) (defBody s_is_couple) (defScope s_is_couple) .none kV2 dc2 pm2 an2 cd2 ct2), sl2⟩)
    (c2 : PySem.W.codeIn K cd2 "is_couple" = true)
    (k2 : PySem.W.keepIn K (.ref f2) = true)
    (a3 : PySem.W.nsIn K mainGlobals "is_colour" = some (some (.ref f3)))
    (l3 : K.lookup f3 = some ⟨oc3, od3, .func (PySem.W.fnOf "is_colour" "is_colour" (defArgs s_is_colour) (defBody s_is_colour) (defScope s_is_colour) .none kV3 dc3 pm3 an3 cd3 ct3), sl3⟩)
    (c3 : PySem.W.codeIn K cd3 "is_colour" = true)
    (k3 : PySem.W.keepIn K (.ref f3) = true)
    (a4 : PySem.W.nsIn K mainGlobals "wrong_colour" = some (some (.ref f4)))
    (l4 : K.lookup f4 = some ⟨oc4, od4, .func (PySem.W.fnOf "wrong_colour" "wrong_colour" (defArgs s_wrong_colour) (defBody s_wrong_colour) (defScope s_wrong_colour) .none kV4 dc4 pm4 an4 cd4 ct4), sl4⟩)
    (c4 : PySem.W.codeIn K cd4 "wrong_colour" = true)
    (k4 : PySem.W.keepIn K (.ref f4) = true)
    (a5 : PySem.W.nsIn K mainGlobals "_checked_cells" = some (some (.ref f5)))
    (l5 : K.lookup f5 = some ⟨oc5, od5, .func (PySem.W.fnOf "_checked_cells" "_checked_cells" (defArgs s__checked_cells) (defBody s__checked_cells) (defScope s__checked_cells) .none kV5 dc5 pm5 an5 cd5 ct5), sl5⟩)
    (c5 : PySem.W.codeIn K cd5 "_checked_cells" = true)
    (k5 : PySem.W.keepIn K (.ref f5) = true)
    (a6 : PySem.W.nsIn K mainGlobals "_checked_ties" = some (some (.ref f6)))
    (l6 : K.lookup f6 = some ⟨oc6, od6, .func (PySem.W.fnOf "_checked_ties" "_checked_ties" (defArgs s__checked_ties) (defBody s__checked_ties) (defScope s__checked_ties) .none kV6 dc6 pm6 an6 cd6 ct6), sl6⟩)
    (c6 : PySem.W.codeIn K cd6 "_checked_ties" = true)
    (k6 : PySem.W.keepIn K (.ref f6) = true)
    (a7 : PySem.W.nsIn K mainGlobals "_is_tie" = some (some (.ref f7)))
    (l7 : K.lookup f7 = some ⟨oc7, od7, .func (PySem.W.fnOf "_is_tie" "_is_tie" (defArgs s__is_tie) (defBody s__is_tie) (defScope s__is_tie) .none kV7 dc7 pm7 an7 cd7 ct7), sl7⟩)
    (c7 : PySem.W.codeIn K cd7 "_is_tie" = true)
    (k7 : PySem.W.keepIn K (.ref f7) = true)
    (a8 : PySem.W.nsIn K mainGlobals "_checked_marks" = some (some (.ref f8)))
    (l8 : K.lookup f8 = some ⟨oc8, od8, .func (PySem.W.fnOf "_checked_marks" "_checked_marks" (defArgs s__checked_marks) (defBody s__checked_marks) (defScope s__checked_marks) .none kV8 dc8 pm8 an8 cd8 ct8), sl8⟩)
    (c8 : PySem.W.codeIn K cd8 "_checked_marks" = true)
    (k8 : PySem.W.keepIn K (.ref f8) = true)
    (a9 : PySem.W.nsIn K mainGlobals "check_cell" = some (some (.ref f9)))
    (l9 : K.lookup f9 = some ⟨oc9, od9, .func (PySem.W.fnOf "check_cell" "check_cell" (defArgs s_check_cell) (defBody s_check_cell) (defScope s_check_cell) .none kV9 dc9 pm9 an9 cd9 ct9), sl9⟩)
    (c9 : PySem.W.codeIn K cd9 "check_cell" = true)
    (k9 : PySem.W.keepIn K (.ref f9) = true)
    (a10 : PySem.W.nsIn K mainGlobals "check_mark" = some (some (.ref f10)))
    (l10 : K.lookup f10 = some ⟨oc10, od10, .func (PySem.W.fnOf "check_mark" "check_mark" (defArgs s_check_mark) (defBody s_check_mark) (defScope s_check_mark) .none kV10 dc10 pm10 an10 cd10 ct10), sl10⟩)
    (c10 : PySem.W.codeIn K cd10 "check_mark" = true)
    (k10 : PySem.W.keepIn K (.ref f10) = true)
    (a11 : PySem.W.nsIn K mainGlobals "neighbours_of" = some (some (.ref f11)))
    (l11 : K.lookup f11 = some ⟨oc11, od11, .func (PySem.W.fnOf "neighbours_of" "neighbours_of" (defArgs s_neighbours_of) (defBody s_neighbours_of) (defScope s_neighbours_of) .none kV11 dc11 pm11 an11 cd11 ct11), sl11⟩)
    (c11 : PySem.W.codeIn K cd11 "neighbours_of" = true)
    (k11 : PySem.W.keepIn K (.ref f11) = true)
    (a12 : PySem.W.nsIn K mainGlobals "near_lists" = some (some (.ref f12)))
    (l12 : K.lookup f12 = some ⟨oc12, od12, .func (PySem.W.fnOf "near_lists" "near_lists" (defArgs s_near_lists) (defBody s_near_lists) (defScope s_near_lists) .none kV12 dc12 pm12 an12 cd12 ct12), sl12⟩)
    (c12 : PySem.W.codeIn K cd12 "near_lists" = true)
    (k12 : PySem.W.keepIn K (.ref f12) = true)
    (a13 : PySem.W.nsIn K mainGlobals "with_colours" = some (some (.ref f13)))
    (l13 : K.lookup f13 = some ⟨oc13, od13, .func (PySem.W.fnOf "with_colours" "with_colours" (defArgs s_with_colours) (defBody s_with_colours) (defScope s_with_colours) .none kV13 dc13 pm13 an13 cd13 ct13), sl13⟩)
    (c13 : PySem.W.codeIn K cd13 "with_colours" = true)
    (k13 : PySem.W.keepIn K (.ref f13) = true)
    (a14 : PySem.W.nsIn K mainGlobals "with_marks" = some (some (.ref f14)))
    (l14 : K.lookup f14 = some ⟨oc14, od14, .func (PySem.W.fnOf "with_marks" "with_marks" (defArgs s_with_marks) (defBody s_with_marks) (defScope s_with_marks) .none kV14 dc14 pm14 an14 cd14 ct14), sl14⟩)
    (c14 : PySem.W.codeIn K cd14 "with_marks" = true)
    (k14 : PySem.W.keepIn K (.ref f14) = true)
    (a15 : PySem.W.nsIn K mainGlobals "_law_hand" = some (some (.ref f15)))
    (l15 : K.lookup f15 = some ⟨oc15, od15, .func (PySem.W.fnOf "_law_hand" "_law_hand" (defArgs s__law_hand) (defBody s__law_hand) (defScope s__law_hand) .none kV15 dc15 pm15 an15 cd15 ct15), sl15⟩)
    (c15 : PySem.W.codeIn K cd15 "_law_hand" = true)
    (k15 : PySem.W.keepIn K (.ref f15) = true)
    (a16 : PySem.W.nsIn K mainGlobals "_law_mixed" = some (some (.ref f16)))
    (l16 : K.lookup f16 = some ⟨oc16, od16, .func (PySem.W.fnOf "_law_mixed" "_law_mixed" (defArgs s__law_mixed) (defBody s__law_mixed) (defScope s__law_mixed) .none kV16 dc16 pm16 an16 cd16 ct16), sl16⟩)
    (c16 : PySem.W.codeIn K cd16 "_law_mixed" = true)
    (k16 : PySem.W.keepIn K (.ref f16) = true)
    (a17 : PySem.W.nsIn K mainGlobals "_law_take" = some (some (.ref f17)))
    (l17 : K.lookup f17 = some ⟨oc17, od17, .func (PySem.W.fnOf "_law_take" "_law_take" (defArgs s__law_take) (defBody s__law_take) (defScope s__law_take) .none kV17 dc17 pm17 an17 cd17 ct17), sl17⟩)
    (c17 : PySem.W.codeIn K cd17 "_law_take" = true)
    (k17 : PySem.W.keepIn K (.ref f17) = true)
    (a18 : PySem.W.nsIn K mainGlobals "_law_colour" = some (some (.ref f18)))
    (l18 : K.lookup f18 = some ⟨oc18, od18, .func (PySem.W.fnOf "_law_colour" "_law_colour" (defArgs s__law_colour) (defBody s__law_colour) (defScope s__law_colour) .none kV18 dc18 pm18 an18 cd18 ct18), sl18⟩)
    (c18 : PySem.W.codeIn K cd18 "_law_colour" = true)
    (k18 : PySem.W.keepIn K (.ref f18) = true)
    (a19 : PySem.W.nsIn K mainGlobals "_law_ties" = some (some (.ref f19)))
    (l19 : K.lookup f19 = some ⟨oc19, od19, .func (PySem.W.fnOf "_law_ties" "_law_ties" (defArgs s__law_ties) (defBody s__law_ties) (defScope s__law_ties) .none kV19 dc19 pm19 an19 cd19 ct19), sl19⟩)
    (c19 : PySem.W.codeIn K cd19 "_law_ties" = true)
    (k19 : PySem.W.keepIn K (.ref f19) = true)
    (a20 : PySem.W.nsIn K mainGlobals "_law_marks" = some (some (.ref f20)))
    (l20 : K.lookup f20 = some ⟨oc20, od20, .func (PySem.W.fnOf "_law_marks" "_law_marks" (defArgs s__law_marks) (defBody s__law_marks) (defScope s__law_marks) .none kV20 dc20 pm20 an20 cd20 ct20), sl20⟩)
    (c20 : PySem.W.codeIn K cd20 "_law_marks" = true)
    (k20 : PySem.W.keepIn K (.ref f20) = true)
    (a21 : PySem.W.nsIn K mainGlobals "_law_picture" = some (some (.ref f21)))
    (l21 : K.lookup f21 = some ⟨oc21, od21, .func (PySem.W.fnOf "_law_picture" "_law_picture" (defArgs s__law_picture) (defBody s__law_picture) (defScope s__law_picture) .none kV21 dc21 pm21 an21 cd21 ct21), sl21⟩)
    (c21 : PySem.W.codeIn K cd21 "_law_picture" = true)
    (k21 : PySem.W.keepIn K (.ref f21) = true)
    (a22 : PySem.W.nsIn K mainGlobals "_law_near" = some (some (.ref f22)))
    (l22 : K.lookup f22 = some ⟨oc22, od22, .func (PySem.W.fnOf "_law_near" "_law_near" (defArgs s__law_near) (defBody s__law_near) (defScope s__law_near) .none kV22 dc22 pm22 an22 cd22 ct22), sl22⟩)
    (c22 : PySem.W.codeIn K cd22 "_law_near" = true)
    (k22 : PySem.W.keepIn K (.ref f22) = true)
    (a23 : PySem.W.nsIn K mainGlobals "_law_tuples" = some (some (.ref f23)))
    (l23 : K.lookup f23 = some ⟨oc23, od23, .func (PySem.W.fnOf "_law_tuples" "_law_tuples" (defArgs s__law_tuples) (defBody s__law_tuples) (defScope s__law_tuples) .none kV23 dc23 pm23 an23 cd23 ct23), sl23⟩)
    (c23 : PySem.W.codeIn K cd23 "_law_tuples" = true)
    (k23 : PySem.W.keepIn K (.ref f23) = true)
    (a24 : PySem.W.nsIn K mainGlobals "_law_made" = some (some (.ref f24)))
    (l24 : K.lookup f24 = some ⟨oc24, od24, .func (PySem.W.fnOf "_law_made" "_law_made" (defArgs s__law_made) (defBody s__law_made) (defScope s__law_made) .none kV24 dc24 pm24 an24 cd24 ct24), sl24⟩)
    (c24 : PySem.W.codeIn K cd24 "_law_made" = true)
    (k24 : PySem.W.keepIn K (.ref f24) = true)
    (a25 : PySem.W.nsIn K mainGlobals "_law_odd" = some (some (.ref f25)))
    (l25 : K.lookup f25 = some ⟨oc25, od25, .func (PySem.W.fnOf "_law_odd" "_law_odd" (defArgs s__law_odd) (defBody s__law_odd) (defScope s__law_odd) .none kV25 dc25 pm25 an25 cd25 ct25), sl25⟩)
    (c25 : PySem.W.codeIn K cd25 "_law_odd" = true)
    (k25 : PySem.W.keepIn K (.ref f25) = true)
    (a26 : PySem.W.nsIn K mainGlobals "_law_rid" = some (some (.ref f26)))
    (l26 : K.lookup f26 = some ⟨oc26, od26, .func (PySem.W.fnOf "_law_rid" "_law_rid" (defArgs s__law_rid) (defBody s__law_rid) (defScope s__law_rid) .none kV26 dc26 pm26 an26 cd26 ct26), sl26⟩)
    (c26 : PySem.W.codeIn K cd26 "_law_rid" = true)
    (k26 : PySem.W.keepIn K (.ref f26) = true)
    (a27 : PySem.W.nsIn K mainGlobals "_law_least" = some (some (.ref f27)))
    (l27 : K.lookup f27 = some ⟨oc27, od27, .func (PySem.W.fnOf "_law_least" "_law_least" (defArgs s__law_least) (defBody s__law_least) (defScope s__law_least) .none kV27 dc27 pm27 an27 cd27 ct27), sl27⟩)
    (c27 : PySem.W.codeIn K cd27 "_law_least" = true)
    (k27 : PySem.W.keepIn K (.ref f27) = true)
    (a28 : PySem.W.nsIn K mainGlobals "_law_same" = some (some (.ref f28)))
    (l28 : K.lookup f28 = some ⟨oc28, od28, .func (PySem.W.fnOf "_law_same" "_law_same" (defArgs s__law_same) (defBody s__law_same) (defScope s__law_same) .none kV28 dc28 pm28 an28 cd28 ct28), sl28⟩)
    (c28 : PySem.W.codeIn K cd28 "_law_same" = true)
    (k28 : PySem.W.keepIn K (.ref f28) = true)
    (a29 : PySem.W.nsIn K mainGlobals "_law_cell" = some (some (.ref f29)))
    (l29 : K.lookup f29 = some ⟨oc29, od29, .func (PySem.W.fnOf "_law_cell" "_law_cell" (defArgs s__law_cell) (defBody s__law_cell) (defScope s__law_cell) .none kV29 dc29 pm29 an29 cd29 ct29), sl29⟩)
    (c29 : PySem.W.codeIn K cd29 "_law_cell" = true)
    (k29 : PySem.W.keepIn K (.ref f29) = true)
    (a30 : PySem.W.nsIn K mainGlobals "_law_near_of" = some (some (.ref f30)))
    (l30 : K.lookup f30 = some ⟨oc30, od30, .func (PySem.W.fnOf "_law_near_of" "_law_near_of" (defArgs s__law_near_of) (defBody s__law_near_of) (defScope s__law_near_of) .none kV30 dc30 pm30 an30 cd30 ct30), sl30⟩)
    (c30 : PySem.W.codeIn K cd30 "_law_near_of" = true)
    (k30 : PySem.W.keepIn K (.ref f30) = true)
    (a31 : PySem.W.nsIn K mainGlobals "_law_mark" = some (some (.ref f31)))
    (l31 : K.lookup f31 = some ⟨oc31, od31, .func (PySem.W.fnOf "_law_mark" "_law_mark" (defArgs s__law_mark) (defBody s__law_mark) (defScope s__law_mark) .none kV31 dc31 pm31 an31 cd31 ct31), sl31⟩)
    (c31 : PySem.W.codeIn K cd31 "_law_mark" = true)
    (k31 : PySem.W.keepIn K (.ref f31) = true)
    (a32 : PySem.W.nsIn K mainGlobals "_law_new" = some (some (.ref f32)))
    (l32 : K.lookup f32 = some ⟨oc32, od32, .func (PySem.W.fnOf "_law_new" "_law_new" (defArgs s__law_new) (defBody s__law_new) (defScope s__law_new) .none kV32 dc32 pm32 an32 cd32 ct32), sl32⟩)
    (c32 : PySem.W.codeIn K cd32 "_law_new" = true)
    (k32 : PySem.W.keepIn K (.ref f32) = true)
    (a33 : PySem.W.nsIn K mainGlobals "_law_moved" = some (some (.ref f33)))
    (l33 : K.lookup f33 = some ⟨oc33, od33, .func (PySem.W.fnOf "_law_moved" "_law_moved" (defArgs s__law_moved) (defBody s__law_moved) (defScope s__law_moved) .none kV33 dc33 pm33 an33 cd33 ct33), sl33⟩)
    (c33 : PySem.W.codeIn K cd33 "_law_moved" = true)
    (k33 : PySem.W.keepIn K (.ref f33) = true)
    (a34 : PySem.W.nsIn K mainGlobals "law" = some (some (.ref f34)))
    (l34 : K.lookup f34 = some ⟨oc34, od34, .func (PySem.W.fnOf "law" "law" (defArgs s_law) (defBody s_law) (defScope s_law) .none kV34 dc34 pm34 an34 cd34 ct34), sl34⟩)
    (c34 : PySem.W.codeIn K cd34 "law" = true)
    (k34 : PySem.W.keepIn K (.ref f34) = true)
    (C0a : PySem.W.nsIn K mainGlobals "HueError" = some (some (.ref C0)))
    (C1a : PySem.W.nsIn K mainGlobals "BadPicture" = some (some (.ref C1)))
    (C2a : PySem.W.nsIn K mainGlobals "NoCell" = some (some (.ref C2)))
    (C3a : PySem.W.nsIn K mainGlobals "NoMark" = some (some (.ref C3)))
    (C4a : PySem.W.nsIn K mainGlobals "Picture" = some (some (.ref C4)))
    (x0 : K.lookup C1 = some (excClassObj nmC0 qnC0 C1 N0 bs0 bm0 true sn0 sub0 ab0 col0 dd0 m00 m10 m20 m30 m50 "ValueError.__new__"))
    (r0 : PySem.HandSPX.refsVE bm0 = true)
    (sa0 : PySem.W.findIn K (.ref C1) "__setattr__" = some (some (.builtin "object.__setattr__")))
    (eC0 : PySem.W.subIn K (.ref C1) (.type "BaseException") = some true)
    (tC0 : PySem.W.typeIn K (.ref C1) = some (.type "type"))
    (is0 : PySem.W.isClsIn K C1 = true)
    (kC0 : PySem.W.keepIn K (.ref C1) = true)
    (ga0 : PySem.W.findIn K (.ref C1) "__getattribute__" = some (some (.builtin "BaseException.__getattribute__")))
    (gg0 : PySem.W.findIn K (.ref C1) "__getattr__" = some none)
    (hd0 : PySem.W.hasDictIn K C1 = true)
    (i0 : PySem.W.findIn K (.ref C1) "__init__" = some (some (.ref I0)))
    (t0 : PySem.W.typeIn K (.ref I0) = some (.type "function"))
    (lI0 : K.lookup I0 = some ⟨ocI0, odI0, .func (PySem.W.fnOf "__init__" "BadPicture.__init__" (defArgs s_BadPicture) (defBody s_BadPicture) (defScope s_BadPicture) .none kVI0 dcI0 pmI0 anI0 cdI0 ctI0), slI0⟩)
    (cI0 : PySem.W.codeIn K cdI0 "BadPicture.__init__" = true)
    (kI0 : PySem.W.keepIn K (.ref I0) = true)
    (n0_index : PySem.W.findIn K (.ref C1) "index" = some none)
    (n0_what : PySem.W.findIn K (.ref C1) "what" = some none)
    (x1 : K.lookup C2 = some (excClassObj nmC1 qnC1 C2 N1 bs1 bm1 true sn1 sub1 ab1 col1 dd1 m01 m11 m21 m31 m51 "ValueError.__new__"))
    (r1 : PySem.HandSPX.refsVE bm1 = true)
    (sa1 : PySem.W.findIn K (.ref C2) "__setattr__" = some (some (.builtin "object.__setattr__")))
    (eC1 : PySem.W.subIn K (.ref C2) (.type "BaseException") = some true)
    (tC1 : PySem.W.typeIn K (.ref C2) = some (.type "type"))
    (is1 : PySem.W.isClsIn K C2 = true)
    (kC1 : PySem.W.keepIn K (.ref C2) = true)
    (ga1 : PySem.W.findIn K (.ref C2) "__getattribute__" = some (some (.builtin "BaseException.__getattribute__")))
    (gg1 : PySem.W.findIn K (.ref C2) "__getattr__" = some none)
    (hd1 : PySem.W.hasDictIn K C2 = true)
    (i1 : PySem.W.findIn K (.ref C2) "__init__" = some (some (.ref I1)))
    (t1 : PySem.W.typeIn K (.ref I1) = some (.type "function"))
    (lI1 : K.lookup I1 = some ⟨ocI1, odI1, .func (PySem.W.fnOf "__init__" "NoCell.__init__" (defArgs s_NoCell) (defBody s_NoCell) (defScope s_NoCell) .none kVI1 dcI1 pmI1 anI1 cdI1 ctI1), slI1⟩)
    (cI1 : PySem.W.codeIn K cdI1 "NoCell.__init__" = true)
    (kI1 : PySem.W.keepIn K (.ref I1) = true)
    (n1_cell : PySem.W.findIn K (.ref C2) "cell" = some none)
    (x2 : K.lookup C3 = some (excClassObj nmC2 qnC2 C3 N2 bs2 bm2 true sn2 sub2 ab2 col2 dd2 m02 m12 m22 m32 m52 "ValueError.__new__"))
    (r2 : PySem.HandSPX.refsVE bm2 = true)
    (sa2 : PySem.W.findIn K (.ref C3) "__setattr__" = some (some (.builtin "object.__setattr__")))
    (eC2 : PySem.W.subIn K (.ref C3) (.type "BaseException") = some true)
    (tC2 : PySem.W.typeIn K (.ref C3) = some (.type "type"))
    (is2 : PySem.W.isClsIn K C3 = true)
    (kC2 : PySem.W.keepIn K (.ref C3) = true)
    (ga2 : PySem.W.findIn K (.ref C3) "__getattribute__" = some (some (.builtin "BaseException.__getattribute__")))
    (gg2 : PySem.W.findIn K (.ref C3) "__getattr__" = some none)
    (hd2 : PySem.W.hasDictIn K C3 = true)
    (i2 : PySem.W.findIn K (.ref C3) "__init__" = some (some (.ref I2)))
    (t2 : PySem.W.typeIn K (.ref I2) = some (.type "function"))
    (lI2 : K.lookup I2 = some ⟨ocI2, odI2, .func (PySem.W.fnOf "__init__" "NoMark.__init__" (defArgs s_NoMark) (defBody s_NoMark) (defScope s_NoMark) .none kVI2 dcI2 pmI2 anI2 cdI2 ctI2), slI2⟩)
    (cI2 : PySem.W.codeIn K cdI2 "NoMark.__init__" = true)
    (kI2 : PySem.W.keepIn K (.ref I2) = true)
    (n2_mark : PySem.W.findIn K (.ref C3) "mark" = some none)
    (M0a : PySem.W.findIn K (.ref C4) "__init__" = some (some (.ref M0)))
    (M0i : PySem.W.isFn K (.ref M0) = true)
    (lM0 : K.lookup M0 = some ⟨ocM0, odM0, .func (PySem.W.fnOf "__init__" "Picture.__init__" (defArgs s_Picture__init__) (defBody s_Picture__init__) (defScope s_Picture__init__) .none kVM0 dcM0 pmM0 anM0 cdM0 ctM0), slM0⟩)
    (cM0 : PySem.W.codeIn K cdM0 "Picture.__init__" = true)
    (kM0 : PySem.W.keepIn K (.ref M0) = true)
    (M1a : PySem.W.findIn K (.ref C4) "__len__" = some (some (.ref M1)))
    (M1i : PySem.W.isFn K (.ref M1) = true)
    (lM1 : K.lookup M1 = some ⟨ocM1, odM1, .func (PySem.W.fnOf "__len__" "Picture.__len__" (defArgs s_Picture__len__) (defBody s_Picture__len__) (defScope s_Picture__len__) .none kVM1 dcM1 pmM1 anM1 cdM1 ctM1), slM1⟩)
    (cM1 : PySem.W.codeIn K cdM1 "Picture.__len__" = true)
    (kM1 : PySem.W.keepIn K (.ref M1) = true)
    (V0pg : PySem.W.plainGet K C4 Str.empty = true)
    (V0hd : PySem.W.hasDictIn K C4 = true)
    (V0po : PySem.W.plainOver K C4 = true)
    (V0sa : PySem.W.findIn K (.ref C4) "__setattr__" = some (some (.builtin "object.__setattr__")))
    (V0ha : PySem.W.findIn K (.ref C4) "__class__" = some (some (.builtin "object.__class__")))
    (V0mk : PySem.W.makesIn K C4 = true)
    (V0kp : PySem.W.keepIn K (.ref C4) = true)
    (V0mr : PySem.W.mroIn K C4 (.type "object") = some true)
    (Vhn : PySem.W.specialIn K (.builtin "object.__class__") "__get__" = some (some (.builtin "getset_descriptor.__get__")))
    (Vht : PySem.W.takesIn K (.builtin "object.__class__") = some true)
    (V0aNoneType : PySem.W.kitOne K (.ref C4) (.type "NoneType") = some false)
    (V0bNoneType : PySem.W.kitOne K (.type "NoneType") (.ref C4) = some false)
    (V0abool : PySem.W.kitOne K (.ref C4) (.type "bool") = some false)
    (V0bbool : PySem.W.kitOne K (.type "bool") (.ref C4) = some false)
    (V0aint : PySem.W.kitOne K (.ref C4) (.type "int") = some false)
    (V0bint : PySem.W.kitOne K (.type "int") (.ref C4) = some false)
    (V0astr : PySem.W.kitOne K (.ref C4) (.type "str") = some false)
    (V0bstr : PySem.W.kitOne K (.type "str") (.ref C4) = some false)
    (V0alist : PySem.W.kitOne K (.ref C4) (.type "list") = some false)
    (V0blist : PySem.W.kitOne K (.type "list") (.ref C4) = some false)
    (V0atuple : PySem.W.kitOne K (.ref C4) (.type "tuple") = some false)
    (V0btuple : PySem.W.kitOne K (.type "tuple") (.ref C4) = some false)
    (V0adict : PySem.W.kitOne K (.ref C4) (.type "dict") = some false)
    (V0bdict : PySem.W.kitOne K (.type "dict") (.ref C4) = some false)
    (V0_colours : PySem.W.findIn K (.ref C4) "colours" = some none)
    (V0_ties : PySem.W.findIn K (.ref C4) "ties" = some none)
    (V0_marks : PySem.W.findIn K (.ref C4) "marks" = some none)
    (V0k0 : PySem.W.kitOne K (.ref C4) (.ref C4) = some true)
    (Bsp : PySem.W.specialIn K (.ref C0) "__getattribute__" = some (some (.builtin "type.__getattribute__")))
    (Brd : PySem.W.readsIn K C0 (.type "type") = true)
    (BvI : PySem.W.findCls K (.ref C0) (.type "type") "__init__" = some (.val (.builtin "ValueError.__init__")))
    (e0_0 : PySem.W.subIn K (.ref C1) (.ref C1) = some true)
    (e0_1 : PySem.W.subIn K (.ref C1) (.ref C2) = some false)
    (e0_2 : PySem.W.subIn K (.ref C1) (.ref C3) = some false)
    (e1_0 : PySem.W.subIn K (.ref C2) (.ref C1) = some false)
    (e1_1 : PySem.W.subIn K (.ref C2) (.ref C2) = some true)
    (e1_2 : PySem.W.subIn K (.ref C2) (.ref C3) = some false)
    (e2_0 : PySem.W.subIn K (.ref C3) (.ref C1) = some false)
    (e2_1 : PySem.W.subIn K (.ref C3) (.ref C2) = some false)
    (e2_2 : PySem.W.subIn K (.ref C3) (.ref C3) = some true)
    (z_abs : PySem.W.nsIn K mainGlobals "abs" = some none)
    (z_bool : PySem.W.nsIn K mainGlobals "bool" = some none)
    (z_enumerate : PySem.W.nsIn K mainGlobals "enumerate" = some none)
    (z_int : PySem.W.nsIn K mainGlobals "int" = some none)
    (z_isinstance : PySem.W.nsIn K mainGlobals "isinstance" = some none)
    (z_len : PySem.W.nsIn K mainGlobals "len" = some none)
    (z_list : PySem.W.nsIn K mainGlobals "list" = some none)
    (z_max : PySem.W.nsIn K mainGlobals "max" = some none)
    (z_min : PySem.W.nsIn K mainGlobals "min" = some none)
    (z_range : PySem.W.nsIn K mainGlobals "range" = some none)
    (z_set : PySem.W.nsIn K mainGlobals "set" = some none)
    (z_sorted : PySem.W.nsIn K mainGlobals "sorted" = some none)
    (z_tuple : PySem.W.nsIn K mainGlobals "tuple" = some none)
    (v_MOST_COLOUR : PySem.W.nsIn K mainGlobals "MOST_COLOUR" = some (some (.int 99 ct_MOST_COLOUR)))
    (v_MOST_MARKS : PySem.W.nsIn K mainGlobals "MOST_MARKS" = some (some (.int 4 ct_MOST_MARKS)))
    (v_MOST_CELLS : PySem.W.nsIn K mainGlobals "MOST_CELLS" = some (some (.int 700 ct_MOST_CELLS)))
    (v_MOST_TIES : PySem.W.nsIn K mainGlobals "MOST_TIES" = some (some (.int 2000 ct_MOST_TIES)))
    : ∃ fd : FuncData, (∀ (s : Shared) (v : Value), BindsTo s fd ⟨[v], []⟩ [("_law_script", v)]) ∧ ∀ base : Heap, K.In base → base.Ns mainGlobals mg → FnG l.prog w K mg base (L2.CX l.prog w) 9 fa fd ["_law_script"] (spLaw K) := by
  have e := hfa.symm.trans (PySem.W.mg_of X G a34)
  cases e
  let A : Ad := { a_is_whole := f0, d_is_whole := (PySem.W.fnOf "is_whole" "is_whole" (defArgs s_is_whole) (defBody s_is_whole) (defScope s_is_whole) (.ref q0) kV0 dc0 pm0 an0 cd0 ct0), a_is_sequence := f1, d_is_sequence := (PySem.W.fnOf "is_sequence" "is_sequence" (defArgs s_is_sequence) (defBody s_is_sequence) (defScope s_is_sequence) .none kV1 dc1 pm1 an1 cd1 ct1), a_is_couple := f2, d_is_couple := (PySem.W.fnOf "is_couple" "is_couple" (defArgs s_is_couple) (defBody s_is_couple) (defScope s_is_couple) .none kV2 dc2 pm2 an2 cd2 ct2), a_is_colour := f3, d_is_colour := (PySem.W.fnOf "is_colour" "is_colour" (defArgs s_is_colour) (defBody s_is_colour) (defScope s_is_colour) .none kV3 dc3 pm3 an3 cd3 ct3), a_wrong_colour := f4, d_wrong_colour := (PySem.W.fnOf "wrong_colour" "wrong_colour" (defArgs s_wrong_colour) (defBody s_wrong_colour) (defScope s_wrong_colour) .none kV4 dc4 pm4 an4 cd4 ct4), a__checked_cells := f5, d__checked_cells := (PySem.W.fnOf "_checked_cells" "_checked_cells" (defArgs s__checked_cells) (defBody s__checked_cells) (defScope s__checked_cells) .none kV5 dc5 pm5 an5 cd5 ct5), a__checked_ties := f6, d__checked_ties := (PySem.W.fnOf "_checked_ties" "_checked_ties" (defArgs s__checked_ties) (defBody s__checked_ties) (defScope s__checked_ties) .none kV6 dc6 pm6 an6 cd6 ct6), a__is_tie := f7, d__is_tie := (PySem.W.fnOf "_is_tie" "_is_tie" (defArgs s__is_tie) (defBody s__is_tie) (defScope s__is_tie) .none kV7 dc7 pm7 an7 cd7 ct7), a__checked_marks := f8, d__checked_marks := (PySem.W.fnOf "_checked_marks" "_checked_marks" (defArgs s__checked_marks) (defBody s__checked_marks) (defScope s__checked_marks) .none kV8 dc8 pm8 an8 cd8 ct8), a_check_cell := f9, d_check_cell := (PySem.W.fnOf "check_cell" "check_cell" (defArgs s_check_cell) (defBody s_check_cell) (defScope s_check_cell) .none kV9 dc9 pm9 an9 cd9 ct9), a_check_mark := f10, d_check_mark := (PySem.W.fnOf "check_mark" "check_mark" (defArgs s_check_mark) (defBody s_check_mark) (defScope s_check_mark) .none kV10 dc10 pm10 an10 cd10 ct10), a_neighbours_of := f11, d_neighbours_of := (PySem.W.fnOf "neighbours_of" "neighbours_of" (defArgs s_neighbours_of) (defBody s_neighbours_of) (defScope s_neighbours_of) .none kV11 dc11 pm11 an11 cd11 ct11), a_near_lists := f12, d_near_lists := (PySem.W.fnOf "near_lists" "near_lists" (defArgs s_near_lists) (defBody s_near_lists) (defScope s_near_lists) .none kV12 dc12 pm12 an12 cd12 ct12), a_with_colours := f13, d_with_colours := (PySem.W.fnOf "with_colours" "with_colours" (defArgs s_with_colours) (defBody s_with_colours) (defScope s_with_colours) .none kV13 dc13 pm13 an13 cd13 ct13), a_with_marks := f14, d_with_marks := (PySem.W.fnOf "with_marks" "with_marks" (defArgs s_with_marks) (defBody s_with_marks) (defScope s_with_marks) .none kV14 dc14 pm14 an14 cd14 ct14), a__law_hand := f15, d__law_hand := (PySem.W.fnOf "_law_hand" "_law_hand" (defArgs s__law_hand) (defBody s__law_hand) (defScope s__law_hand) .none kV15 dc15 pm15 an15 cd15 ct15), a__law_mixed := f16, d__law_mixed := (PySem.W.fnOf "_law_mixed" "_law_mixed" (defArgs s__law_mixed) (defBody s__law_mixed) (defScope s__law_mixed) .none kV16 dc16 pm16 an16 cd16 ct16), a__law_take := f17, d__law_take := (PySem.W.fnOf "_law_take" "_law_take" (defArgs s__law_take) (defBody s__law_take) (defScope s__law_take) .none kV17 dc17 pm17 an17 cd17 ct17), a__law_colour := f18, d__law_colour := (PySem.W.fnOf "_law_colour" "_law_colour" (defArgs s__law_colour) (defBody s__law_colour) (defScope s__law_colour) .none kV18 dc18 pm18 an18 cd18 ct18), a__law_ties := f19, d__law_ties := (PySem.W.fnOf "_law_ties" "_law_ties" (defArgs s__law_ties) (defBody s__law_ties) (defScope s__law_ties) .none kV19 dc19 pm19 an19 cd19 ct19), a__law_marks := f20, d__law_marks := (PySem.W.fnOf "_law_marks" "_law_marks" (defArgs s__law_marks) (defBody s__law_marks) (defScope s__law_marks) .none kV20 dc20 pm20 an20 cd20 ct20), a__law_picture := f21, d__law_picture := (PySem.W.fnOf "_law_picture" "_law_picture" (defArgs s__law_picture) (defBody s__law_picture) (defScope s__law_picture) .none kV21 dc21 pm21 an21 cd21 ct21), a__law_near := f22, d__law_near := (PySem.W.fnOf "_law_near" "_law_near" (defArgs s__law_near) (defBody s__law_near) (defScope s__law_near) .none kV22 dc22 pm22 an22 cd22 ct22), a__law_tuples := f23, d__law_tuples := (PySem.W.fnOf "_law_tuples" "_law_tuples" (defArgs s__law_tuples) (defBody s__law_tuples) (defScope s__law_tuples) .none kV23 dc23 pm23 an23 cd23 ct23), a__law_made := f24, d__law_made := (PySem.W.fnOf "_law_made" "_law_made" (defArgs s__law_made) (defBody s__law_made) (defScope s__law_made) .none kV24 dc24 pm24 an24 cd24 ct24), a__law_odd := f25, d__law_odd := (PySem.W.fnOf "_law_odd" "_law_odd" (defArgs s__law_odd) (defBody s__law_odd) (defScope s__law_odd) .none kV25 dc25 pm25 an25 cd25 ct25), a__law_rid := f26, d__law_rid := (PySem.W.fnOf "_law_rid" "_law_rid" (defArgs s__law_rid) (defBody s__law_rid) (defScope s__law_rid) .none kV26 dc26 pm26 an26 cd26 ct26), a__law_least := f27, d__law_least := (PySem.W.fnOf "_law_least" "_law_least" (defArgs s__law_least) (defBody s__law_least) (defScope s__law_least) .none kV27 dc27 pm27 an27 cd27 ct27), a__law_same := f28, d__law_same := (PySem.W.fnOf "_law_same" "_law_same" (defArgs s__law_same) (defBody s__law_same) (defScope s__law_same) .none kV28 dc28 pm28 an28 cd28 ct28), a__law_cell := f29, d__law_cell := (PySem.W.fnOf "_law_cell" "_law_cell" (defArgs s__law_cell) (defBody s__law_cell) (defScope s__law_cell) .none kV29 dc29 pm29 an29 cd29 ct29), a__law_near_of := f30, d__law_near_of := (PySem.W.fnOf "_law_near_of" "_law_near_of" (defArgs s__law_near_of) (defBody s__law_near_of) (defScope s__law_near_of) .none kV30 dc30 pm30 an30 cd30 ct30), a__law_mark := f31, d__law_mark := (PySem.W.fnOf "_law_mark" "_law_mark" (defArgs s__law_mark) (defBody s__law_mark) (defScope s__law_mark) .none kV31 dc31 pm31 an31 cd31 ct31), a__law_new := f32, d__law_new := (PySem.W.fnOf "_law_new" "_law_new" (defArgs s__law_new) (defBody s__law_new) (defScope s__law_new) .none kV32 dc32 pm32 an32 cd32 ct32), a__law_moved := f33, d__law_moved := (PySem.W.fnOf "_law_moved" "_law_moved" (defArgs s__law_moved) (defBody s__law_moved) (defScope s__law_moved) .none kV33 dc33 pm33 an33 cd33 ct33), a_law := fa, d_law := (PySem.W.fnOf "law" "law" (defArgs s_law) (defBody s_law) (defScope s_law) .none kV34 dc34 pm34 an34 cd34 ct34), c_HueError := C0, c_BadPicture := C1, c_NoCell := C2, c_NoMark := C3, c_Picture := C4, i_BadPicture := I0, di_BadPicture := (PySem.W.fnOf "__init__" "BadPicture.__init__" (defArgs s_BadPicture) (defBody s_BadPicture) (defScope s_BadPicture) .none kVI0 dcI0 pmI0 anI0 cdI0 ctI0), i_NoCell := I1, di_NoCell := (PySem.W.fnOf "__init__" "NoCell.__init__" (defArgs s_NoCell) (defBody s_NoCell) (defScope s_NoCell) .none kVI1 dcI1 pmI1 anI1 cdI1 ctI1), i_NoMark := I2, di_NoMark := (PySem.W.fnOf "__init__" "NoMark.__init__" (defArgs s_NoMark) (defBody s_NoMark) (defScope s_NoMark) .none kVI2 dcI2 pmI2 anI2 cdI2 ctI2), a_Picture__init__ := M0, d_Picture__init__ := (PySem.W.fnOf "__init__" "Picture.__init__" (defArgs s_Picture__init__) (defBody s_Picture__init__) (defScope s_Picture__init__) .none kVM0 dcM0 pmM0 anM0 cdM0 ctM0), a_Picture__len__ := M1, d_Picture__len__ := (PySem.W.fnOf "__len__" "Picture.__len__" (defArgs s_Picture__len__) (defBody s_Picture__len__) (defScope s_Picture__len__) .none kVM1 dcM1 pmM1 anM1 cdM1 ctM1) }
  have F0 : FunD K "is_whole" "is_whole" (defArgs s_is_whole) (defBody s_is_whole) (defScope s_is_whole) [.non, .non] [] A.a_is_whole A.d_is_whole := ⟨⟨_, _, _, _, _, _, _, _, _, _, rfl, l0, c0, .inr ⟨by simp, _, _, [.none, .none], _, rfl, q0l, rfl, (.cons rfl (.cons rfl .nil))⟩, .inl rfl⟩, k0⟩
  have F1 : FunD K "is_sequence" "is_sequence" (defArgs s_is_sequence) (defBody s_is_sequence) (defScope s_is_sequence) [] [] A.a_is_sequence A.d_is_sequence := ⟨⟨_, _, _, _, _, _, _, _, _, _, rfl, l1, c1, .inl ⟨rfl, rfl⟩, .inl rfl⟩, k1⟩
  have F2 : FunD K "is_couple" "is_couple" (defArgs s_is_couple) (defBody s_is_couple) (defScope s_is_couple) [] [] A.a_is_couple A.d_is_couple := ⟨⟨_, _, _, _, _, _, _, _, _, _, rfl, l2, c2, .inl ⟨rfl, rfl⟩, .inl rfl⟩, k2⟩
  have F3 : FunD K "is_colour" "is_colour" (defArgs s_is_colour) (defBody s_is_colour) (defScope s_is_colour) [] [] A.a_is_colour A.d_is_colour := ⟨⟨_, _, _, _, _, _, _, _, _, _, rfl, l3, c3, .inl ⟨rfl, rfl⟩, .inl rfl⟩, k3⟩
  have F4 : FunD K "wrong_colour" "wrong_colour" (defArgs s_wrong_colour) (defBody s_wrong_colour) (defScope s_wrong_colour) [] [] A.a_wrong_colour A.d_wrong_colour := ⟨⟨_, _, _, _, _, _, _, _, _, _, rfl, l4, c4, .inl ⟨rfl, rfl⟩, .inl rfl⟩, k4⟩
  have F5 : FunD K "_checked_cells" "_checked_cells" (defArgs s__checked_cells) (defBody s__checked_cells) (defScope s__checked_cells) [] [] A.a__checked_cells A.d__checked_cells := ⟨⟨_, _, _, _, _, _, _, _, _, _, rfl, l5, c5, .inl ⟨rfl, rfl⟩, .inl rfl⟩, k5⟩
  have F6 : FunD K "_checked_ties" "_checked_ties" (defArgs s__checked_ties) (defBody s__checked_ties) (defScope s__checked_ties) [] [] A.a__checked_ties A.d__checked_ties := ⟨⟨_, _, _, _, _, _, _, _, _, _, rfl, l6, c6, .inl ⟨rfl, rfl⟩, .inl rfl⟩, k6⟩
  have F7 : FunD K "_is_tie" "_is_tie" (defArgs s__is_tie) (defBody s__is_tie) (defScope s__is_tie) [] [] A.a__is_tie A.d__is_tie := ⟨⟨_, _, _, _, _, _, _, _, _, _, rfl, l7, c7, .inl ⟨rfl, rfl⟩, .inl rfl⟩, k7⟩
  have F8 : FunD K "_checked_marks" "_checked_marks" (defArgs s__checked_marks) (defBody s__checked_marks) (defScope s__checked_marks) [] [] A.a__checked_marks A.d__checked_marks := ⟨⟨_, _, _, _, _, _, _, _, _, _, rfl, l8, c8, .inl ⟨rfl, rfl⟩, .inl rfl⟩, k8⟩
  have F9 : FunD K "check_cell" "check_cell" (defArgs s_check_cell) (defBody s_check_cell) (defScope s_check_cell) [] [] A.a_check_cell A.d_check_cell := ⟨⟨_, _, _, _, _, _, _, _, _, _, rfl, l9, c9, .inl ⟨rfl, rfl⟩, .inl rfl⟩, k9⟩
  have F10 : FunD K "check_mark" "check_mark" (defArgs s_check_mark) (defBody s_check_mark) (defScope s_check_mark) [] [] A.a_check_mark A.d_check_mark := ⟨⟨_, _, _, _, _, _, _, _, _, _, rfl, l10, c10, .inl ⟨rfl, rfl⟩, .inl rfl⟩, k10⟩
  have F11 : FunD K "neighbours_of" "neighbours_of" (defArgs s_neighbours_of) (defBody s_neighbours_of) (defScope s_neighbours_of) [] [] A.a_neighbours_of A.d_neighbours_of := ⟨⟨_, _, _, _, _, _, _, _, _, _, rfl, l11, c11, .inl ⟨rfl, rfl⟩, .inl rfl⟩, k11⟩
  have F12 : FunD K "near_lists" "near_lists" (defArgs s_near_lists) (defBody s_near_lists) (defScope s_near_lists) [] [] A.a_near_lists A.d_near_lists := ⟨⟨_, _, _, _, _, _, _, _, _, _, rfl, l12, c12, .inl ⟨rfl, rfl⟩, .inl rfl⟩, k12⟩
  have F13 : FunD K "with_colours" "with_colours" (defArgs s_with_colours) (defBody s_with_colours) (defScope s_with_colours) [] [] A.a_with_colours A.d_with_colours := ⟨⟨_, _, _, _, _, _, _, _, _, _, rfl, l13, c13, .inl ⟨rfl, rfl⟩, .inl rfl⟩, k13⟩
  have F14 : FunD K "with_marks" "with_marks" (defArgs s_with_marks) (defBody s_with_marks) (defScope s_with_marks) [] [] A.a_with_marks A.d_with_marks := ⟨⟨_, _, _, _, _, _, _, _, _, _, rfl, l14, c14, .inl ⟨rfl, rfl⟩, .inl rfl⟩, k14⟩
  have F15 : FunD K "_law_hand" "_law_hand" (defArgs s__law_hand) (defBody s__law_hand) (defScope s__law_hand) [] [] A.a__law_hand A.d__law_hand := ⟨⟨_, _, _, _, _, _, _, _, _, _, rfl, l15, c15, .inl ⟨rfl, rfl⟩, .inl rfl⟩, k15⟩
  have F16 : FunD K "_law_mixed" "_law_mixed" (defArgs s__law_mixed) (defBody s__law_mixed) (defScope s__law_mixed) [] [] A.a__law_mixed A.d__law_mixed := ⟨⟨_, _, _, _, _, _, _, _, _, _, rfl, l16, c16, .inl ⟨rfl, rfl⟩, .inl rfl⟩, k16⟩
  have F17 : FunD K "_law_take" "_law_take" (defArgs s__law_take) (defBody s__law_take) (defScope s__law_take) [] [] A.a__law_take A.d__law_take := ⟨⟨_, _, _, _, _, _, _, _, _, _, rfl, l17, c17, .inl ⟨rfl, rfl⟩, .inl rfl⟩, k17⟩
  have F18 : FunD K "_law_colour" "_law_colour" (defArgs s__law_colour) (defBody s__law_colour) (defScope s__law_colour) [] [] A.a__law_colour A.d__law_colour := ⟨⟨_, _, _, _, _, _, _, _, _, _, rfl, l18, c18, .inl ⟨rfl, rfl⟩, .inl rfl⟩, k18⟩
  have F19 : FunD K "_law_ties" "_law_ties" (defArgs s__law_ties) (defBody s__law_ties) (defScope s__law_ties) [] [] A.a__law_ties A.d__law_ties := ⟨⟨_, _, _, _, _, _, _, _, _, _, rfl, l19, c19, .inl ⟨rfl, rfl⟩, .inl rfl⟩, k19⟩
  have F20 : FunD K "_law_marks" "_law_marks" (defArgs s__law_marks) (defBody s__law_marks) (defScope s__law_marks) [] [] A.a__law_marks A.d__law_marks := ⟨⟨_, _, _, _, _, _, _, _, _, _, rfl, l20, c20, .inl ⟨rfl, rfl⟩, .inl rfl⟩, k20⟩
  have F21 : FunD K "_law_picture" "_law_picture" (defArgs s__law_picture) (defBody s__law_picture) (defScope s__law_picture) [] [] A.a__law_picture A.d__law_picture := ⟨⟨_, _, _, _, _, _, _, _, _, _, rfl, l21, c21, .inl ⟨rfl, rfl⟩, .inl rfl⟩, k21⟩
  have F22 : FunD K "_law_near" "_law_near" (defArgs s__law_near) (defBody s__law_near) (defScope s__law_near) [] [] A.a__law_near A.d__law_near := ⟨⟨_, _, _, _, _, _, _, _, _, _, rfl, l22, c22, .inl ⟨rfl, rfl⟩, .inl rfl⟩, k22⟩
  have F23 : FunD K "_law_tuples" "_law_tuples" (defArgs s__law_tuples) (defBody s__law_tuples) (defScope s__law_tuples) [] [] A.a__law_tuples A.d__law_tuples := ⟨⟨_, _, _, _, _, _, _, _, _, _, rfl, l23, c23, .inl ⟨rfl, rfl⟩, .inl rfl⟩, k23⟩
  have F24 : FunD K "_law_made" "_law_made" (defArgs s__law_made) (defBody s__law_made) (defScope s__law_made) [] [] A.a__law_made A.d__law_made := ⟨⟨_, _, _, _, _, _, _, _, _, _, rfl, l24, c24, .inl ⟨rfl, rfl⟩, .inl rfl⟩, k24⟩
  have F25 : FunD K "_law_odd" "_law_odd" (defArgs s__law_odd) (defBody s__law_odd) (defScope s__law_odd) [] [] A.a__law_odd A.d__law_odd := ⟨⟨_, _, _, _, _, _, _, _, _, _, rfl, l25, c25, .inl ⟨rfl, rfl⟩, .inl rfl⟩, k25⟩
  have F26 : FunD K "_law_rid" "_law_rid" (defArgs s__law_rid) (defBody s__law_rid) (defScope s__law_rid) [] [] A.a__law_rid A.d__law_rid := ⟨⟨_, _, _, _, _, _, _, _, _, _, rfl, l26, c26, .inl ⟨rfl, rfl⟩, .inl rfl⟩, k26⟩
  have F27 : FunD K "_law_least" "_law_least" (defArgs s__law_least) (defBody s__law_least) (defScope s__law_least) [] [] A.a__law_least A.d__law_least := ⟨⟨_, _, _, _, _, _, _, _, _, _, rfl, l27, c27, .inl ⟨rfl, rfl⟩, .inl rfl⟩, k27⟩
  have F28 : FunD K "_law_same" "_law_same" (defArgs s__law_same) (defBody s__law_same) (defScope s__law_same) [] [] A.a__law_same A.d__law_same := ⟨⟨_, _, _, _, _, _, _, _, _, _, rfl, l28, c28, .inl ⟨rfl, rfl⟩, .inl rfl⟩, k28⟩
  have F29 : FunD K "_law_cell" "_law_cell" (defArgs s__law_cell) (defBody s__law_cell) (defScope s__law_cell) [] [] A.a__law_cell A.d__law_cell := ⟨⟨_, _, _, _, _, _, _, _, _, _, rfl, l29, c29, .inl ⟨rfl, rfl⟩, .inl rfl⟩, k29⟩
  have F30 : FunD K "_law_near_of" "_law_near_of" (defArgs s__law_near_of) (defBody s__law_near_of) (defScope s__law_near_of) [] [] A.a__law_near_of A.d__law_near_of := ⟨⟨_, _, _, _, _, _, _, _, _, _, rfl, l30, c30, .inl ⟨rfl, rfl⟩, .inl rfl⟩, k30⟩
  have F31 : FunD K "_law_mark" "_law_mark" (defArgs s__law_mark) (defBody s__law_mark) (defScope s__law_mark) [] [] A.a__law_mark A.d__law_mark := ⟨⟨_, _, _, _, _, _, _, _, _, _, rfl, l31, c31, .inl ⟨rfl, rfl⟩, .inl rfl⟩, k31⟩
  have F32 : FunD K "_law_new" "_law_new" (defArgs s__law_new) (defBody s__law_new) (defScope s__law_new) [] [] A.a__law_new A.d__law_new := ⟨⟨_, _, _, _, _, _, _, _, _, _, rfl, l32, c32, .inl ⟨rfl, rfl⟩, .inl rfl⟩, k32⟩
  have F33 : FunD K "_law_moved" "_law_moved" (defArgs s__law_moved) (defBody s__law_moved) (defScope s__law_moved) [] [] A.a__law_moved A.d__law_moved := ⟨⟨_, _, _, _, _, _, _, _, _, _, rfl, l33, c33, .inl ⟨rfl, rfl⟩, .inl rfl⟩, k33⟩
  have F34 : FunD K "law" "law" (defArgs s_law) (defBody s_law) (defScope s_law) [] [] A.a_law A.d_law := ⟨⟨_, _, _, _, _, _, _, _, _, _, rfl, l34, c34, .inl ⟨rfl, rfl⟩, .inl rfl⟩, k34⟩
  have T : Tx K mg A := {
    F_is_whole := F0
    g_is_whole := PySem.W.mg_of X G a0
    b_is_whole := bindD0 F0 (by simp) fun _ _ _ _ _ _ _ us its h1 h2 => match us, its, h1, h2 with | [_, _, _], [_, _], _, _ => ⟨_, rfl, rfl⟩
    F_is_sequence := F1
    g_is_sequence := PySem.W.mg_of X G a1
    b_is_sequence := (fun_mk (st := s_is_sequence) l1 c1 k1).binds (ps := ["thing"]) fun _ _ _ _ _ _ us hl => match us, hl with | [_], _ => rfl
    F_is_couple := F2
    g_is_couple := PySem.W.mg_of X G a2
    b_is_couple := (fun_mk (st := s_is_couple) l2 c2 k2).binds (ps := ["thing"]) fun _ _ _ _ _ _ us hl => match us, hl with | [_], _ => rfl
    F_is_colour := F3
    g_is_colour := PySem.W.mg_of X G a3
    b_is_colour := (fun_mk (st := s_is_colour) l3 c3 k3).binds (ps := ["thing"]) fun _ _ _ _ _ _ us hl => match us, hl with | [_], _ => rfl
    F_wrong_colour := F4
    g_wrong_colour := PySem.W.mg_of X G a4
    b_wrong_colour := (fun_mk (st := s_wrong_colour) l4 c4 k4).binds (ps := ["row"]) fun _ _ _ _ _ _ us hl => match us, hl with | [_], _ => rfl
    F__checked_cells := F5
    g__checked_cells := PySem.W.mg_of X G a5
    b__checked_cells := (fun_mk (st := s__checked_cells) l5 c5 k5).binds (ps := ["colours"]) fun _ _ _ _ _ _ us hl => match us, hl with | [_], _ => rfl
    F__checked_ties := F6
    g__checked_ties := PySem.W.mg_of X G a6
    b__checked_ties := (fun_mk (st := s__checked_ties) l6 c6 k6).binds (ps := ["ties", "many"]) fun _ _ _ _ _ _ us hl => match us, hl with | [_, _], _ => rfl
    F__is_tie := F7
    g__is_tie := PySem.W.mg_of X G a7
    b__is_tie := (fun_mk (st := s__is_tie) l7 c7 k7).binds (ps := ["tie", "many"]) fun _ _ _ _ _ _ us hl => match us, hl with | [_, _], _ => rfl
    F__checked_marks := F8
    g__checked_marks := PySem.W.mg_of X G a8
    b__checked_marks := (fun_mk (st := s__checked_marks) l8 c8 k8).binds (ps := ["marks", "many"]) fun _ _ _ _ _ _ us hl => match us, hl with | [_, _], _ => rfl
    F_check_cell := F9
    g_check_cell := PySem.W.mg_of X G a9
    b_check_cell := (fun_mk (st := s_check_cell) l9 c9 k9).binds (ps := ["picture", "cell"]) fun _ _ _ _ _ _ us hl => match us, hl with | [_, _], _ => rfl
    F_check_mark := F10
    g_check_mark := PySem.W.mg_of X G a10
    b_check_mark := (fun_mk (st := s_check_mark) l10 c10 k10).binds (ps := ["marks", "mark"]) fun _ _ _ _ _ _ us hl => match us, hl with | [_, _], _ => rfl
    F_neighbours_of := F11
    g_neighbours_of := PySem.W.mg_of X G a11
    b_neighbours_of := (fun_mk (st := s_neighbours_of) l11 c11 k11).binds (ps := ["picture", "cell"]) fun _ _ _ _ _ _ us hl => match us, hl with | [_, _], _ => rfl
    F_near_lists := F12
    g_near_lists := PySem.W.mg_of X G a12
    b_near_lists := (fun_mk (st := s_near_lists) l12 c12 k12).binds (ps := ["many", "ties"]) fun _ _ _ _ _ _ us hl => match us, hl with | [_, _], _ => rfl
    F_with_colours := F13
    g_with_colours := PySem.W.mg_of X G a13
    b_with_colours := (fun_mk (st := s_with_colours) l13 c13 k13).binds (ps := ["picture", "colours"]) fun _ _ _ _ _ _ us hl => match us, hl with | [_, _], _ => rfl
    F_with_marks := F14
    g_with_marks := PySem.W.mg_of X G a14
    b_with_marks := (fun_mk (st := s_with_marks) l14 c14 k14).binds (ps := ["picture", "marks"]) fun _ _ _ _ _ _ us hl => match us, hl with | [_, _], _ => rfl
    F__law_hand := F15
    g__law_hand := PySem.W.mg_of X G a15
    b__law_hand := (fun_mk (st := s__law_hand) l15 c15 k15).binds (ps := ["_law_script"]) fun _ _ _ _ _ _ us hl => match us, hl with | [_], _ => rfl
    F__law_mixed := F16
    g__law_mixed := PySem.W.mg_of X G a16
    b__law_mixed := (fun_mk (st := s__law_mixed) l16 c16 k16).binds (ps := ["_law_number", "_law_turn"]) fun _ _ _ _ _ _ us hl => match us, hl with | [_, _], _ => rfl
    F__law_take := F17
    g__law_take := PySem.W.mg_of X G a17
    b__law_take := (fun_mk (st := s__law_take) l17 c17 k17).binds (ps := ["_law_hand_here", "_law_many"]) fun _ _ _ _ _ _ us hl => match us, hl with | [_, _], _ => rfl
    F__law_colour := F18
    g__law_colour := PySem.W.mg_of X G a18
    b__law_colour := (fun_mk (st := s__law_colour) l18 c18 k18).binds (ps := ["_law_hand_here"]) fun _ _ _ _ _ _ us hl => match us, hl with | [_], _ => rfl
    F__law_ties := F19
    g__law_ties := PySem.W.mg_of X G a19
    b__law_ties := (fun_mk (st := s__law_ties) l19 c19 k19).binds (ps := ["_law_hand_here", "_law_many"]) fun _ _ _ _ _ _ us hl => match us, hl with | [_, _], _ => rfl
    F__law_marks := F20
    g__law_marks := PySem.W.mg_of X G a20
    b__law_marks := (fun_mk (st := s__law_marks) l20 c20 k20).binds (ps := ["_law_hand_here", "_law_many", "_law_wanted"]) fun _ _ _ _ _ _ us hl => match us, hl with | [_, _, _], _ => rfl
    F__law_picture := F21
    g__law_picture := PySem.W.mg_of X G a21
    b__law_picture := (fun_mk (st := s__law_picture) l21 c21 k21).binds (ps := ["_law_hand_here", "_law_most", "_law_wanted"]) fun _ _ _ _ _ _ us hl => match us, hl with | [_, _, _], _ => rfl
    F__law_near := F22
    g__law_near := PySem.W.mg_of X G a22
    b__law_near := (fun_mk (st := s__law_near) l22 c22 k22).binds (ps := ["_law_many", "_law_ties_here"]) fun _ _ _ _ _ _ us hl => match us, hl with | [_, _], _ => rfl
    F__law_tuples := F23
    g__law_tuples := PySem.W.mg_of X G a23
    b__law_tuples := (fun_mk (st := s__law_tuples) l23 c23 k23).binds (ps := ["_law_thing"]) fun _ _ _ _ _ _ us hl => match us, hl with | [_], _ => rfl
    F__law_made := F24
    g__law_made := PySem.W.mg_of X G a24
    b__law_made := (fun_mk (st := s__law_made) l24 c24 k24).binds (ps := ["_law_picture_here"]) fun _ _ _ _ _ _ us hl => match us, hl with | [_], _ => rfl
    F__law_odd := F25
    g__law_odd := PySem.W.mg_of X G a25
    b__law_odd := (fun_mk (st := s__law_odd) l25 c25 k25).binds (ps := ["_law_hand_here", "_law_bound"]) fun _ _ _ _ _ _ us hl => match us, hl with | [_, _], _ => rfl
    F__law_rid := F26
    g__law_rid := PySem.W.mg_of X G a26
    b__law_rid := (fun_mk (st := s__law_rid) l26 c26 k26).binds (ps := ["_law_hand_here"]) fun _ _ _ _ _ _ us hl => match us, hl with | [_], _ => rfl
    F__law_least := F27
    g__law_least := PySem.W.mg_of X G a27
    b__law_least := (fun_mk (st := s__law_least) l27 c27 k27).binds (ps := ["_law_ties_here"]) fun _ _ _ _ _ _ us hl => match us, hl with | [_], _ => rfl
    F__law_same := F28
    g__law_same := PySem.W.mg_of X G a28
    b__law_same := (fun_mk (st := s__law_same) l28 c28 k28).binds (ps := ["_law_told", "_law_picture_here"]) fun _ _ _ _ _ _ us hl => match us, hl with | [_, _], _ => rfl
    F__law_cell := F29
    g__law_cell := PySem.W.mg_of X G a29
    b__law_cell := (fun_mk (st := s__law_cell) l29 c29 k29).binds (ps := ["_law_told", "_law_cell_here"]) fun _ _ _ _ _ _ us hl => match us, hl with | [_, _], _ => rfl
    F__law_near_of := F30
    g__law_near_of := PySem.W.mg_of X G a30
    b__law_near_of := (fun_mk (st := s__law_near_of) l30 c30 k30).binds (ps := ["_law_told", "_law_cell_here"]) fun _ _ _ _ _ _ us hl => match us, hl with | [_, _], _ => rfl
    F__law_mark := F31
    g__law_mark := PySem.W.mg_of X G a31
    b__law_mark := (fun_mk (st := s__law_mark) l31 c31 k31).binds (ps := ["_law_marks_here", "_law_mark_here"]) fun _ _ _ _ _ _ us hl => match us, hl with | [_, _], _ => rfl
    F__law_new := F32
    g__law_new := PySem.W.mg_of X G a32
    b__law_new := (fun_mk (st := s__law_new) l32 c32 k32).binds (ps := ["_law_told", "_law_colours"]) fun _ _ _ _ _ _ us hl => match us, hl with | [_, _], _ => rfl
    F__law_moved := F33
    g__law_moved := PySem.W.mg_of X G a33
    b__law_moved := (fun_mk (st := s__law_moved) l33 c33 k33).binds (ps := ["_law_told", "_law_marks_here"]) fun _ _ _ _ _ _ us hl => match us, hl with | [_, _], _ => rfl
    F_law := F34
    g_law := PySem.W.mg_of X G a34
    b_law := (fun_mk (st := s_law) l34 c34 k34).binds (ps := ["_law_script"]) fun _ _ _ _ _ _ us hl => match us, hl with | [_], _ => rfl
    h_BadPicture_index := n0_index
    h_BadPicture_what := n0_what
    o_BadPicture := ⟨⟨_, _, _, _, _, _, _, _, _, _, _, _, _, _, _, x0, r0⟩, sa0, eC0, tC0, kC0⟩
    x_BadPicture := ⟨ga0, gg0, eC0, hd0⟩
    g_BadPicture := PySem.W.mg_of X G C1a
    i_BadPicture := i0
    t_BadPicture := t0
    FI_BadPicture := ⟨⟨_, _, _, _, _, _, _, _, _, _, rfl, lI0, cI0, .inl ⟨rfl, rfl⟩, .inl rfl⟩, kI0⟩
    bi_BadPicture := (fun_mk (st := s_BadPicture) lI0 cI0 kI0).binds (ps := ["self", "index", "what"]) fun _ _ _ _ _ _ us hl => match us, hl with | [_, _, _], _ => rfl
    h_NoCell_cell := n1_cell
    o_NoCell := ⟨⟨_, _, _, _, _, _, _, _, _, _, _, _, _, _, _, x1, r1⟩, sa1, eC1, tC1, kC1⟩
    x_NoCell := ⟨ga1, gg1, eC1, hd1⟩
    g_NoCell := PySem.W.mg_of X G C2a
    i_NoCell := i1
    t_NoCell := t1
    FI_NoCell := ⟨⟨_, _, _, _, _, _, _, _, _, _, rfl, lI1, cI1, .inl ⟨rfl, rfl⟩, .inl rfl⟩, kI1⟩
    bi_NoCell := (fun_mk (st := s_NoCell) lI1 cI1 kI1).binds (ps := ["self", "cell"]) fun _ _ _ _ _ _ us hl => match us, hl with | [_, _], _ => rfl
    h_NoMark_mark := n2_mark
    o_NoMark := ⟨⟨_, _, _, _, _, _, _, _, _, _, _, _, _, _, _, x2, r2⟩, sa2, eC2, tC2, kC2⟩
    x_NoMark := ⟨ga2, gg2, eC2, hd2⟩
    g_NoMark := PySem.W.mg_of X G C3a
    i_NoMark := i2
    t_NoMark := t2
    FI_NoMark := ⟨⟨_, _, _, _, _, _, _, _, _, _, rfl, lI2, cI2, .inl ⟨rfl, rfl⟩, .inl rfl⟩, kI2⟩
    bi_NoMark := (fun_mk (st := s_NoMark) lI2 cI2 kI2).binds (ps := ["self", "mark"]) fun _ _ _ _ _ _ us hl => match us, hl with | [_, _], _ => rfl
    F_Picture__init__ := ⟨⟨_, _, _, _, _, _, _, _, _, _, rfl, lM0, cM0, .inl ⟨rfl, rfl⟩, .inl rfl⟩, kM0⟩
    b_Picture__init__ := (fun_mk (st := s_Picture__init__) lM0 cM0 kM0).binds (ps := ["self", "colours", "ties", "marks"]) fun _ _ _ _ _ _ us hl => match us, hl with | [_, _, _, _], _ => rfl
    at_Picture__init__ := M0a
    if_Picture__init__ := M0i
    F_Picture__len__ := ⟨⟨_, _, _, _, _, _, _, _, _, _, rfl, lM1, cM1, .inl ⟨rfl, rfl⟩, .inl rfl⟩, kM1⟩
    b_Picture__len__ := (fun_mk (st := s_Picture__len__) lM1 cM1 kM1).binds (ps := ["self"]) fun _ _ _ _ _ _ us hl => match us, hl with | [_], _ => rfl
    at_Picture__len__ := M1a
    if_Picture__len__ := M1i
    g_Picture := PySem.W.mg_of X G C4a
    mk_Picture := ⟨V0mk, M0a, M0i, V0kp⟩
    zo := ⟨fun c h h2 => match c, h, h2 with | 3, _, _ => ⟨⟨⟨V0pg, V0hd, V0po, V0sa⟩, V0ha, Vhn, Vht, V0mr, V0k0⟩, V0kp, (List.forall_mem_cons.2 ⟨V0aNoneType, (List.forall_mem_cons.2 ⟨V0abool, (List.forall_mem_cons.2 ⟨V0aint, (List.forall_mem_cons.2 ⟨V0astr, (List.forall_mem_cons.2 ⟨V0alist, (List.forall_mem_cons.2 ⟨V0atuple, (List.forall_mem_cons.2 ⟨V0adict, (List.forall_mem_nil _)⟩)⟩)⟩)⟩)⟩)⟩)⟩), (List.forall_mem_cons.2 ⟨V0bNoneType, (List.forall_mem_cons.2 ⟨V0bbool, (List.forall_mem_cons.2 ⟨V0bint, (List.forall_mem_cons.2 ⟨V0bstr, (List.forall_mem_cons.2 ⟨V0blist, (List.forall_mem_cons.2 ⟨V0btuple, (List.forall_mem_cons.2 ⟨V0bdict, (List.forall_mem_nil _)⟩)⟩)⟩)⟩)⟩)⟩)⟩)⟩ | 0, h, _ => absurd h (by decide) | 1, h, _ => absurd h (by decide) | 2, h, _ => absurd h (by decide) | c + 4, _, h => absurd h (by omega), fun c c2 h h2 h3 h4 => match c, c2, h, h2, h3, h4 with | 3, 3, _, _, _, _ => V0k0 | 0, _, h, _, _, _ => absurd h (by decide) | 1, _, h, _, _, _ => absurd h (by decide) | 2, _, h, _, _, _ => absurd h (by decide) | c + 4, _, _, h, _, _ => absurd h (by omega) | 3, 0, _, _, h, _ => absurd h (by decide) | 3, 1, _, _, h, _ => absurd h (by decide) | 3, 2, _, _, h, _ => absurd h (by decide) | 3, c + 4, _, _, _, h => absurd h (by omega), fun c f h h2 hf => (show ∀ f ∈ (Zo K A).fn c, NoAttr K ((Zo K A).cl c) f from match c, h, h2 with | 3, _, _ => fun f hf => (by have hf : f ∈ (["colours", "ties", "marks"] : List Str) := hf; simp only [List.mem_cons, List.not_mem_nil, or_false] at hf; rcases hf with rfl | rfl | rfl <;> first | exact V0_colours | exact V0_ties | exact V0_marks) | 0, h, _ => absurd h (by decide) | 1, h, _ => absurd h (by decide) | 2, h, _ => absurd h (by decide) | c + 4, _, h => absurd h (by omega)) f hf, fun c h h2 => match c, h, h2 with | 3, _, _ => (show (fnZ 3).Nodup from by decide +kernel) | 0, h, _ => absurd h (by decide) | 1, h, _ => absurd h (by decide) | 2, h, _ => absurd h (by decide) | c + 4, _, h => absurd h (by omega), fun c h h2 => match c, h, h2 with | 3, _, _ => (show (fnZ 3).length < 900 from by decide) | 0, h, _ => absurd h (by decide) | 1, h, _ => absurd h (by decide) | 2, h, _ => absurd h (by decide) | c + 4, _, h => absurd h (by omega)⟩
    base := ⟨PySem.W.mg_of X G C0a, Bsp, Brd, BvI⟩
    ex := fun c c' h h' => match c, c', h, h' with | 0, 0, _, _ => exm_two eC0 is0 tC0 e0_0 | 0, 1, _, _ => exm_two eC1 is1 tC1 e0_1 | 0, 2, _, _ => exm_two eC2 is2 tC2 e0_2 | 1, 0, _, _ => exm_two eC0 is0 tC0 e1_0 | 1, 1, _, _ => exm_two eC1 is1 tC1 e1_1 | 1, 2, _, _ => exm_two eC2 is2 tC2 e1_2 | 2, 0, _, _ => exm_two eC0 is0 tC0 e2_0 | 2, 1, _, _ => exm_two eC1 is1 tC1 e2_1 | 2, 2, _, _ => exm_two eC2 is2 tC2 e2_2 | c + 3, _, h, _ => absurd h (by omega) | 0, c + 3, _, h => absurd h (by omega) | 1, c + 3, _, h => absurd h (by omega) | 2, c + 3, _, h => absurd h (by omega)
    n_abs := PySem.W.mg_none_of X G z_abs
    n_bool := PySem.W.mg_none_of X G z_bool
    n_enumerate := PySem.W.mg_none_of X G z_enumerate
    n_int := PySem.W.mg_none_of X G z_int
    n_isinstance := PySem.W.mg_none_of X G z_isinstance
    n_len := PySem.W.mg_none_of X G z_len
    n_list := PySem.W.mg_none_of X G z_list
    n_max := PySem.W.mg_none_of X G z_max
    n_min := PySem.W.mg_none_of X G z_min
    n_range := PySem.W.mg_none_of X G z_range
    n_set := PySem.W.mg_none_of X G z_set
    n_sorted := PySem.W.mg_none_of X G z_sorted
    n_tuple := PySem.W.mg_none_of X G z_tuple
    k_MOST_COLOUR := ⟨_, PySem.W.mg_of X G v_MOST_COLOUR⟩
    k_MOST_MARKS := ⟨_, PySem.W.mg_of X G v_MOST_MARKS⟩
    k_MOST_CELLS := ⟨_, PySem.W.mg_of X G v_MOST_CELLS⟩
    k_MOST_TIES := ⟨_, PySem.W.mg_of X G v_MOST_TIES⟩
  }
  exact ⟨(PySem.W.fnOf "law" "law" (defArgs s_law) (defBody s_law) (defScope s_law) .none kV34 dc34 pm34 an34 cd34 ct34), fun s v => .of_eq rfl, fun base _ _ => ok_law T hm⟩
theorem walk {l : PySem.W.OpenLaw} {q : Program} {loose : List Str} {XP : (Str → Option Value) → Heap → Prop} {YP : World → Heap → Prop} {d : DefRec} {K : Params → PySem.W.Frag} (hn : l.most = some 63) (hdf : d.params.defaults = [])
    (hY : ∀ (w : World) (h : Heap), YP w h → (K w.params).In h)
    (F : ∀ (w : World) (mg : Str → Option Value) (fa : Addr) (h : Heap), (K w.params).In h → h.Ns mainGlobals mg → mg d.name = some (.ref fa) →
      ∃ fd : FuncData, (∀ (s : Shared) (u : Value), BindsTo s fd ⟨[u], []⟩ [("_law_script", u)]) ∧ ∀ base : Heap, (K w.params).In base → base.Ns mainGlobals mg → FnG l.prog w (K w.params) mg base (L2.CX l.prog w) 9 fa fd ["_law_script"] (spLaw (K w.params))) :
    PySem.W.WalkO q loose XP YP l.row.toRowW d [] (fun f vs => PySem.call f vs) :=
  walkG (n := 63) (k := 9) (x := "_law_script") (CX := fun w => L2.CX l.prog w) (sp := fun w => spLaw (K w.params)) hn (by decide) hdf ⟨rfl, by decide, by decide⟩ hY F (fun _ _ a ns hl _ hS => ⟨a, ns, rfl, hS, hl, fun _ => rfl⟩) fun _ _ _ _ _ z => cx_no z
end G_spreadhues_k03_whole_neighbours_and_new
open PySem PySem.W PyProof.Rows
set_option maxRecDepth 100000 in
set_option maxHeartbeats 0 in
theorem PySem.Challenge.cw_spreadhues_k03_whole_neighbours_and_new_holds : PySem.Challenge.rw_spreadhues_k03_whole_neighbours_and_new.Holds := by
  w_on; o_law; k_head; (case hw => w_witness2)
  k_fill
  refine G_spreadhues_k03_whole_neighbours_and_new.walk (l := PySem.Challenge.rw_spreadhues_k03_whole_neighbours_and_new) rfl rfl (fun w h Y => PySem.W.kIn_of Y) ?F
  case F =>
    intro w mg fa h KX G hmg
    refine' G_spreadhues_k03_whole_neighbours_and_new.all_mk G_spreadhues_k03_whole_neighbours_and_new.law_true KX G hmg ?a0 ?l0 ?c0 ?k0 ?q0l ?a1 ?l1 ?c1 ?k1 ?a2 ?l2 ?c2 ?k2 ?a3 ?l3 ?c3 ?k3 ?a4 ?l4 ?c4 ?k4 ?a5 ?l5 ?c5 ?k5 ?a6 ?l6 ?c6 ?k6 ?a7 ?l7 ?c7 ?k7 ?a8 ?l8 ?c8 ?k8 ?a9 ?l9 ?c9 ?k9 ?a10 ?l10 ?c10 ?k10 ?a11 ?l11 ?c11 ?k11 ?a12 ?l12 ?c12 ?k12 ?a13 ?l13 ?c13 ?k13 ?a14 ?l14 ?c14 ?k14 ?a15 ?l15 ?c15 ?k15 ?a16 ?l16 ?c16 ?k16 ?a17 ?l17 ?c17 ?k17 ?a18 ?l18 ?c18 ?k18 ?a19 ?l19 ?c19 ?k19 ?a20 ?l20 ?c20 ?k20 ?a21 ?l21 ?c21 ?k21 ?a22 ?l22 ?c22 ?k22 ?a23 ?l23 ?c23 ?k23 ?a24 ?l24 ?c24 ?k24 ?a25 ?l25 ?c25 ?k25 ?a26 ?l26 ?c26 ?k26 ?a27 ?l27 ?c27 ?k27 ?a28 ?l28 ?c28 ?k28 ?a29 ?l29 ?c29 ?k29 ?a30 ?l30 ?c30 ?k30 ?a31 ?l31 ?c31 ?k31 ?a32 ?l32 ?c32 ?k32 ?a33 ?l33 ?c33 ?k33 ?a34 ?l34 ?c34 ?k34 ?C0a ?C1a ?C2a ?C3a ?C4a ?x0 ?r0 ?sa0 ?eC0 ?tC0 ?is0 ?kC0 ?ga0 ?gg0 ?hd0 ?i0 ?t0 ?lI0 ?cI0 ?kI0 ?n0_index ?n0_what ?x1 ?r1 ?sa1 ?eC1 ?tC1 ?is1 ?kC1 ?ga1 ?gg1 ?hd1 ?i1 ?t1 ?lI1 ?cI1 ?kI1 ?n1_cell ?x2 ?r2 ?sa2 ?eC2 ?tC2 ?is2 ?kC2 ?ga2 ?gg2 ?hd2 ?i2 ?t2 ?lI2 ?cI2 ?kI2 ?n2_mark ?M0a ?M0i ?lM0 ?cM0 ?kM0 ?M1a ?M1i ?lM1 ?cM1 ?kM1 ?V0pg ?V0hd ?V0po ?V0sa ?V0ha ?V0mk ?V0kp ?V0mr ?Vhn ?Vht ?V0aNoneType ?V0bNoneType ?V0abool ?V0bbool ?V0aint ?V0bint ?V0astr ?V0bstr ?V0alist ?V0blist ?V0atuple ?V0btuple ?V0adict ?V0bdict ?V0_colours ?V0_ties ?V0_marks ?V0k0 ?Bsp ?Brd ?BvI ?e0_0 ?e0_1 ?e0_2 ?e1_0 ?e1_1 ?e1_2 ?e2_0 ?e2_1 ?e2_2 ?z_abs ?z_bool ?z_enumerate ?z_int ?z_isinstance ?z_len ?z_list ?z_max ?z_min ?z_range ?z_set ?z_sorted ?z_tuple ?v_MOST_COLOUR ?v_MOST_MARKS ?v_MOST_CELLS ?v_MOST_TIES
    (case a0 => k_is)
    (case l0 => k_is)
    (case c0 => k_is)
    (case k0 => k_is)
    (case q0l => k_is)
    (case a1 => k_is)
    (case l1 => k_is)
    (case c1 => k_is)
    (case k1 => k_is)
    (case a2 => k_is)
    (case l2 => k_is)
    (case c2 => k_is)
    (case k2 => k_is)
    (case a3 => k_is)
    (case l3 => k_is)
    (case c3 => k_is)
    (case k3 => k_is)
    (case a4 => k_is)
    (case l4 => k_is)
    (case c4 => k_is)
    (case k4 => k_is)
    (case a5 => k_is)
    (case l5 => k_is)
    (case c5 => k_is)
    (case k5 => k_is)
    (case a6 => k_is)
    (case l6 => k_is)
    (case c6 => k_is)
    (case k6 => k_is)
    (case a7 => k_is)
    (case l7 => k_is)
    (case c7 => k_is)
    (case k7 => k_is)
    (case a8 => k_is)
    (case l8 => k_is)
    (case c8 => k_is)
    (case k8 => k_is)
    (case a9 => k_is)
    (case l9 => k_is)
    (case c9 => k_is)
    (case k9 => k_is)
    (case a10 => k_is)
    (case l10 => k_is)
    (case c10 => k_is)
    (case k10 => k_is)
    (case a11 => k_is)
    (case l11 => k_is)
    (case c11 => k_is)
    (case k11 => k_is)
    (case a12 => k_is)
    (case l12 => k_is)
    (case c12 => k_is)
    (case k12 => k_is)
    (case a13 => k_is)
    (case l13 => k_is)
    (case c13 => k_is)
    (case k13 => k_is)
    (case a14 => k_is)
    (case l14 => k_is)
    (case c14 => k_is)
    (case k14 => k_is)
    (case a15 => k_is)
    (case l15 => k_is)
    (case c15 => k_is)
    (case k15 => k_is)
    (case a16 => k_is)
    (case l16 => k_is)
    (case c16 => k_is)
    (case k16 => k_is)
    (case a17 => k_is)
    (case l17 => k_is)
    (case c17 => k_is)
    (case k17 => k_is)
    (case a18 => k_is)
    (case l18 => k_is)
    (case c18 => k_is)
    (case k18 => k_is)
    (case a19 => k_is)
    (case l19 => k_is)
    (case c19 => k_is)
    (case k19 => k_is)
    (case a20 => k_is)
    (case l20 => k_is)
    (case c20 => k_is)
    (case k20 => k_is)
    (case a21 => k_is)
    (case l21 => k_is)
    (case c21 => k_is)
    (case k21 => k_is)
    (case a22 => k_is)
    (case l22 => k_is)
    (case c22 => k_is)
    (case k22 => k_is)
    (case a23 => k_is)
    (case l23 => k_is)
    (case c23 => k_is)
    (case k23 => k_is)
    (case a24 => k_is)
    (case l24 => k_is)
    (case c24 => k_is)
    (case k24 => k_is)
    (case a25 => k_is)
    (case l25 => k_is)
    (case c25 => k_is)
    (case k25 => k_is)
    (case a26 => k_is)
    (case l26 => k_is)
    (case c26 => k_is)
    (case k26 => k_is)
    (case a27 => k_is)
    (case l27 => k_is)
    (case c27 => k_is)
    (case k27 => k_is)
    (case a28 => k_is)
    (case l28 => k_is)
    (case c28 => k_is)
    (case k28 => k_is)
    (case a29 => k_is)
    (case l29 => k_is)
    (case c29 => k_is)
    (case k29 => k_is)
    (case a30 => k_is)
    (case l30 => k_is)
    (case c30 => k_is)
    (case k30 => k_is)
    (case a31 => k_is)
    (case l31 => k_is)
    (case c31 => k_is)
    (case k31 => k_is)
    (case a32 => k_is)
    (case l32 => k_is)
    (case c32 => k_is)
    (case k32 => k_is)
    (case a33 => k_is)
    (case l33 => k_is)
    (case c33 => k_is)
    (case k33 => k_is)
    (case a34 => k_is)
    (case l34 => k_is)
    (case c34 => k_is)
    (case k34 => k_is)
    (case C0a => k_is)
    (case C1a => k_is)
    (case C2a => k_is)
    (case C3a => k_is)
    (case C4a => k_is)
    (case x0 => k_is)
    (case r0 => decide +kernel)
    (case sa0 => k_is)
    (case eC0 => k_is)
    (case tC0 => k_is)
    (case is0 => k_is)
    (case kC0 => k_is)
    (case ga0 => k_is)
    (case gg0 => k_is)
    (case hd0 => k_is)
    (case i0 => k_is)
    (case t0 => k_is)
    (case lI0 => k_is)
    (case cI0 => k_is)
    (case kI0 => k_is)
    (case n0_index => k_is)
    (case n0_what => k_is)
    (case x1 => k_is)
    (case r1 => decide +kernel)
    (case sa1 => k_is)
    (case eC1 => k_is)
    (case tC1 => k_is)
    (case is1 => k_is)
    (case kC1 => k_is)
    (case ga1 => k_is)
    (case gg1 => k_is)
    (case hd1 => k_is)
    (case i1 => k_is)
    (case t1 => k_is)
    (case lI1 => k_is)
    (case cI1 => k_is)
    (case kI1 => k_is)
    (case n1_cell => k_is)
    (case x2 => k_is)
    (case r2 => decide +kernel)
    (case sa2 => k_is)
    (case eC2 => k_is)
    (case tC2 => k_is)
    (case is2 => k_is)
    (case kC2 => k_is)
    (case ga2 => k_is)
    (case gg2 => k_is)
    (case hd2 => k_is)
    (case i2 => k_is)
    (case t2 => k_is)
    (case lI2 => k_is)
    (case cI2 => k_is)
    (case kI2 => k_is)
    (case n2_mark => k_is)
    (case M0a => k_is)
    (case M0i => k_is)
    (case lM0 => k_is)
    (case cM0 => k_is)
    (case kM0 => k_is)
    (case M1a => k_is)
    (case M1i => k_is)
    (case lM1 => k_is)
    (case cM1 => k_is)
    (case kM1 => k_is)
    (case V0pg => k_is)
    (case V0hd => k_is)
    (case V0po => k_is)
    (case V0sa => k_is)
    (case V0ha => k_is)
    (case V0mk => k_is)
    (case V0kp => k_is)
    (case V0mr => first | rfl | k_is)
    (case Vhn => k_is)
    (case Vht => k_is)
    (case V0aNoneType => first | rfl | k_is)
    (case V0bNoneType => first | rfl | k_is)
    (case V0abool => first | rfl | k_is)
    (case V0bbool => first | rfl | k_is)
    (case V0aint => first | rfl | k_is)
    (case V0bint => first | rfl | k_is)
    (case V0astr => first | rfl | k_is)
    (case V0bstr => first | rfl | k_is)
    (case V0alist => first | rfl | k_is)
    (case V0blist => first | rfl | k_is)
    (case V0atuple => first | rfl | k_is)
    (case V0btuple => first | rfl | k_is)
    (case V0adict => first | rfl | k_is)
    (case V0bdict => first | rfl | k_is)
    (case V0_colours => k_is)
    (case V0_ties => k_is)
    (case V0_marks => k_is)
    (case V0k0 => first | rfl | k_is)
    (case Bsp => k_is)
    (case Brd => k_is)
    (case BvI => k_is)
    (case e0_0 => first | rfl | k_is)
    (case e0_1 => first | rfl | k_is)
    (case e0_2 => first | rfl | k_is)
    (case e1_0 => first | rfl | k_is)
    (case e1_1 => first | rfl | k_is)
    (case e1_2 => first | rfl | k_is)
    (case e2_0 => first | rfl | k_is)
    (case e2_1 => first | rfl | k_is)
    (case e2_2 => first | rfl | k_is)
    (case z_abs => k_is)
    (case z_bool => k_is)
    (case z_enumerate => k_is)
    (case z_int => k_is)
    (case z_isinstance => k_is)
    (case z_len => k_is)
    (case z_list => k_is)
    (case z_max => k_is)
    (case z_min => k_is)
    (case z_range => k_is)
    (case z_set => k_is)
    (case z_sorted => k_is)
    (case z_tuple => k_is)
    (case v_MOST_COLOUR => k_is)
    (case v_MOST_MARKS => k_is)
    (case v_MOST_CELLS => k_is)
    (case v_MOST_TIES => k_is)
