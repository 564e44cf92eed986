import PyProof.Rows.All
import Wide.All
import OpenK.AllK
import Wide.FinOn
import HandS.ForMost
import HandS.WordsExc
import HandS.Defaults
import HandS.IsInst
import HandS.TupAny
import HandS.Wide
import HandS.ExcInit
import HandS.ExcField
import HandS.CallSlots
import HandS.TryMany
import HandS.Flow
import HandS.FStr
import HandS.Walk
import KE.GoesMore
import HandS.More
import PySem.Challenge.RW_spreadhues_k19_rows_struck_and_hidden
set_option Elab.async false
set_option linter.all false
set_option maxRecDepth 100000
/-! Dm: Python over plain data. A def's value is told by a Lean function over D; the judgements Ev, Sl below say that a reading does what that function says. -/
namespace Dm
open PySem PySem.Spec PyProof.Rows L2
abbrev Sl := List (Option V)

/-- plain data -/
inductive D where
  | non | bl (b : Bool) | int (i : Int) | str (x : Str)
  | lst (xs : List D) | tup (xs : List D) | obj (c : Nat) (fs : List D) | dct (kvs : List (Key × V))

/-- what is known of the classes: the written part; a class's address, its fields' names -/
structure Wo where
  K : PySem.W.Frag
  cl : Nat → Addr
  fn : Nat → List Str

mutual
/-- the value v stands for the data d -/
inductive Rp (Z : Wo) (H : Hp) : V → D → Prop
  | non : Rp Z H .non .non
  | bl (b : Bool) : Rp Z H (.bl b) (.bl b)
  | int (i : Int) : Rp Z H (.int i) (.int i)
  | str (x : Str) : Rp Z H (.str x) (.str x)
  | lst {a : Addr} {xs : List V} {ds : List D} : H a = some (.lst xs) → RpAll Z H xs ds → Rp Z H (.ref a) (.lst ds)
  | tup {a : Addr} {xs : List V} {ds : List D} : H a = some (.tup xs) → RpAll Z H xs ds → Rp Z H (.ref a) (.tup ds)
  | obj {a dx : Addr} {c : Nat} {xs : List V} {ds : List D} : H a = some (.ins (Z.cl c) dx ((Z.fn c).zip xs)) → (Z.fn c).length = xs.length → RpAll Z H xs ds → Rp Z H (.ref a) (.obj c ds)
  | dct {a : Addr} {kvs : List (Key × V)} : H a = some (.dK kvs) → Rp Z H (.ref a) (.dct kvs)
inductive RpAll (Z : Wo) (H : Hp) : List V → List D → Prop
  | nil : RpAll Z H [] []
  | cons {v : V} {vs : List V} {d : D} {ds : List D} : Rp Z H v d → RpAll Z H vs ds → RpAll Z H (v :: vs) (d :: ds)
end
mutual
theorem Rp.mono {Z : Wo} {H H' : Hp} (e : Same H H') : ∀ {v : V} {d : D}, Rp Z H v d → Rp Z H' v d
  | _, _, .non => .non
  | _, _, .bl b => .bl b
  | _, _, .int i => .int i
  | _, _, .str x => .str x
  | _, _, .lst h r => .lst (e _ _ h) (RpAll.mono e r)
  | _, _, .tup h r => .tup (e _ _ h) (RpAll.mono e r)
  | _, _, .obj h l r => .obj (e _ _ h) l (RpAll.mono e r)
  | _, _, .dct h => .dct (e _ _ h)
theorem RpAll.mono {Z : Wo} {H H' : Hp} (e : Same H H') : ∀ {vs : List V} {ds : List D}, RpAll Z H vs ds → RpAll Z H' vs ds
  | _, _, .nil => .nil
  | _, _, .cons h r => .cons (Rp.mono e h) (RpAll.mono e r)
end
section
variable {Z : Wo} {H : Hp}
theorem RpAll.length : ∀ {vs : List V} {ds : List D}, RpAll Z H vs ds → vs.length = ds.length
  | _, _, .nil => rfl
  | _, _, .cons _ r => congrArg Nat.succ r.length
theorem RpAll.get : ∀ {vs : List V} {ds : List D} {i : Nat} {d : D}, RpAll Z H vs ds → ds[i]? = some d → ∃ v, vs[i]? = some v ∧ Rp Z H v d
  | _, _, _, _, .nil, e => by simp at e
  | _, _, 0, _, .cons h _, e => by
    simp at e
    subst e
    exact ⟨_, rfl, h⟩
  | _, _, i + 1, _, .cons _ r, e => by
    obtain ⟨v, q, z⟩ := RpAll.get (i := i) r (by simpa using e)
    exact ⟨v, by simpa using q, z⟩
theorem RpAll.getV : ∀ {vs : List V} {ds : List D} {i : Nat} {v : V}, RpAll Z H vs ds → vs[i]? = some v → ∃ d, ds[i]? = some d ∧ Rp Z H v d
  | _, _, _, _, .nil, e => by simp at e
  | _, _, 0, _, .cons h _, e => by
    simp at e
    subst e
    exact ⟨_, rfl, h⟩
  | _, _, i + 1, _, .cons _ r, e => by
    obtain ⟨v, q, z⟩ := RpAll.getV (i := i) r (by simpa using e)
    exact ⟨v, by simpa using q, z⟩
theorem RpAll.append : ∀ {xs ys : List V} {ds es : List D}, RpAll Z H xs ds → RpAll Z H ys es → RpAll Z H (xs ++ ys) (ds ++ es)
  | _, _, _, _, .nil, s => s
  | _, _, _, _, .cons h r, s => .cons h (RpAll.append r s)
theorem RpAll.take : ∀ (n : Nat) {xs : List V} {ds : List D}, RpAll Z H xs ds → RpAll Z H (xs.take n) (ds.take n)
  | 0, _, _, _ => .nil
  | _ + 1, _, _, .nil => .nil
  | n + 1, _, _, .cons h r => .cons h (RpAll.take n r)
theorem RpAll.drop : ∀ (n : Nat) {xs : List V} {ds : List D}, RpAll Z H xs ds → RpAll Z H (xs.drop n) (ds.drop n)
  | 0, _, _, r => r
  | _ + 1, _, _, .nil => .nil
  | n + 1, _, _, .cons _ r => RpAll.drop n r
theorem RpAll.set {v : V} {d : D} (h : Rp Z H v d) : ∀ (i : Nat) {xs : List V} {ds : List D}, RpAll Z H xs ds → RpAll Z H (xs.set i v) (ds.set i d)
  | _, _, _, .nil => .nil
  | 0, _, _, .cons _ r => .cons h r
  | i + 1, _, _, .cons q r => .cons q (RpAll.set h i r)
theorem RpAll.eraseIdx : ∀ (i : Nat) {xs : List V} {ds : List D}, RpAll Z H xs ds → RpAll Z H (xs.eraseIdx i) (ds.eraseIdx i)
  | _, _, _, .nil => .nil
  | 0, _, _, .cons _ r => r
  | i + 1, _, _, .cons q r => .cons q (RpAll.eraseIdx i r)
theorem RpAll.one {v : V} {d : D} (h : Rp Z H v d) : RpAll Z H [v] [d] := .cons h .nil
end

/-! ### what stands apart: the cells that are a def's own -/
abbrev Led := List (Addr × HO)
/-- G: what stays as it is; L: what may change; both stand in H -/
structure Wd (G : Hp) (L : Led) (H : Hp) : Prop where
  same : Same G H
  nd : (L.map Prod.fst).Nodup
  own : ∀ p ∈ L, H p.1 = some p.2 ∧ G p.1 = none

theorem same_new {H : Hp} {p : Addr} {o : HO} (h : H p = none) : Same H (upd H p o) := fun b x e => by
  rw [upd_ne (ne_of_none e h)]
  exact e
section
variable {G H : Hp} {L B : Led} {p : Addr} {o o' : HO}
theorem Wd.free (w : Wd G L H) (h : H p = none) : G p = none := w.same.free h
/-- a new thing that stays -/
theorem Wd.lay (w : Wd G L H) (h : H p = none) : Wd (upd G p o) L (upd H p o) where
  same := fun b x e => by
    by_cases hb : b = p
    · subst hb
      rw [upd_same] at e ⊢
      exact e
    · rw [upd_ne hb] at e ⊢
      exact w.same b x e
  nd := w.nd
  own := fun q hq => by
    obtain ⟨h1, h2⟩ := w.own q hq
    have e : q.1 ≠ p := ne_of_none h1 h
    rw [upd_ne e, upd_ne e]
    exact ⟨h1, h2⟩
theorem Wd.layS (w : Wd G L H) (h : H p = none) : Same G (upd G p o) := same_new (w.free h)
/-- a new thing that may change -/
theorem Wd.keep (w : Wd G L H) (h : H p = none) : Wd G ((p, o) :: L) (upd H p o) where
  same := fun b x e => by
    rw [upd_ne (ne_of_none (w.same b x e) h)]
    exact w.same b x e
  nd := by
    rw [List.map_cons, List.nodup_cons]
    refine ⟨fun hm => ?_, w.nd⟩
    obtain ⟨q, hq, e⟩ := List.mem_map.mp hm
    have z := (w.own q hq).1
    rw [e, h] at z
    cases z
  own := fun q hq => by
    rcases List.mem_cons.mp hq with e | hq
    · subst e
      exact ⟨upd_same, w.free h⟩
    · obtain ⟨h1, h2⟩ := w.own q hq
      rw [upd_ne (ne_of_none h1 h)]
      exact ⟨h1, h2⟩
/-- it stays from now on -/
theorem Wd.frz (w : Wd G ((p, o) :: L) H) : Wd (upd G p o) L H where
  same := fun b x e => by
    by_cases hb : b = p
    · subst hb
      rw [upd_same] at e
      cases e
      exact (w.own (b, o) List.mem_cons_self).1
    · rw [upd_ne hb] at e
      exact w.same b x e
  nd := (List.nodup_cons.mp (by simpa using w.nd)).2
  own := fun q hq => by
    obtain ⟨h1, h2⟩ := w.own q (List.mem_cons_of_mem _ hq)
    have nd : p ∉ L.map Prod.fst := (List.nodup_cons.mp (by simpa using w.nd)).1
    have e : q.1 ≠ p := fun z => nd (List.mem_map.mpr ⟨q, hq, z⟩)
    rw [upd_ne e]
    exact ⟨h1, h2⟩
theorem Wd.frzS (w : Wd G ((p, o) :: L) H) : Same G (upd G p o) := same_new (w.own (p, o) List.mem_cons_self).2
/-- fewer cells -/
theorem Wd.sub {L' : Led} (w : Wd G L H) (s : List.Sublist L' L) : Wd G L' H where
  same := w.same
  nd := (List.Sublist.map Prod.fst s).nodup w.nd
  own := fun q hq => w.own q (s.subset hq)
/-- one of them is changed -/
theorem Wd.put {L1 L2 : Led} (w : Wd G (L1 ++ (p, o) :: L2) H) : Wd G (L1 ++ (p, o') :: L2) (upd H p o') where
  same := fun b x e => by
    have hp := (w.own (p, o) (by simp)).2
    rw [upd_ne (ne_of_none e hp)]
    exact w.same b x e
  nd := by
    have h := w.nd
    simp only [List.map_append, List.map_cons] at h ⊢
    exact h
  own := fun q hq => by
    have nd := w.nd
    rw [List.map_append, List.map_cons] at nd
    have h2 := List.nodup_append.mp nd
    have n2 := List.nodup_cons.mp h2.2.1
    rcases List.mem_append.mp hq with h | h
    · have e : q.1 ≠ p := fun z => h2.2.2 q.1 (List.mem_map.mpr ⟨q, h, rfl⟩) p (List.mem_cons_self ..) z
      rw [upd_ne e]
      exact w.own q (List.mem_append_left _ h)
    · rcases List.mem_cons.mp h with e | h
      · subst e
        exact ⟨upd_same, (w.own (p, o) (by simp)).2⟩
      · have e : q.1 ≠ p := fun z => n2.1 (List.mem_map.mpr ⟨q, h, z⟩)
        rw [upd_ne e]
        exact w.own q (List.mem_append_right _ (List.mem_cons_of_mem _ h))
end

/-! ### the slots, told by data -/
inductive Cell where
  | U | P (d : D) | O (ds : List D) | A (a : Addr) (F : Hp → Prop)
abbrev Env := List Cell
/-- U: nothing is known; P: it stays; O: a list of the def's own; A: the thing at a (the hand, an error that is caught), of which F is known -/
inductive Cells (Z : Wo) (G : Hp) : Env → Sl → Led → Prop
  | nil : Cells Z G [] [] []
  | U {e : Env} {σ : Sl} {L : Led} {x : Option V} : Cells Z G e σ L → Cells Z G (.U :: e) (x :: σ) L
  | P {e : Env} {σ : Sl} {L : Led} {v : V} {d : D} : Rp Z G v d → Cells Z G e σ L → Cells Z G (.P d :: e) (some v :: σ) L
  | O {e : Env} {σ : Sl} {L : Led} {p : Addr} {xs : List V} {ds : List D} : RpAll Z G xs ds → Cells Z G e σ L → Cells Z G (.O ds :: e) (some (.ref p) :: σ) ((p, .lst xs) :: L)
  | A {e : Env} {σ : Sl} {L : Led} {a : Addr} {F : Hp → Prop} : (∀ G', Same G G' → F G') → Cells Z G e σ L → Cells Z G (.A a F :: e) (some (.ref a) :: σ) L
section
variable {Z : Wo} {G G' H : Hp} {L B : Led}
theorem Cells.mono (s : Same G G') : ∀ {e : Env} {σ : Sl} {L : Led}, Cells Z G e σ L → Cells Z G' e σ L
  | _, _, _, .nil => .nil
  | _, _, _, .U c => .U (c.mono s)
  | _, _, _, .P r c => .P (r.mono s) (c.mono s)
  | _, _, _, .O r c => .O (r.mono s) (c.mono s)
  | _, _, _, .A f c => .A (fun G2 s2 => f G2 (s.trans s2)) (c.mono s)
theorem Cells.var : ∀ {e : Env} {σ : Sl} {L : Led} {i : Nat} {d : D}, Cells Z G e σ L → e[i]? = some (.P d) → ∃ v, σ[i]? = some (some v) ∧ Rp Z G v d
  | _, _, _, _, _, .nil, h => by simp at h
  | _, _, _, 0, _, .U c, h => by simp at h
  | _, _, _, 0, _, .P r c, h => by
    simp at h
    subst h
    exact ⟨_, rfl, r⟩
  | _, _, _, 0, _, .O r c, h => by simp at h
  | _, _, _, 0, _, .A f c, h => by simp at h
  | _, _, _, i + 1, _, .U c, h => by simpa using c.var (i := i) (by simpa using h)
  | _, _, _, i + 1, _, .P r c, h => by simpa using c.var (i := i) (by simpa using h)
  | _, _, _, i + 1, _, .O r c, h => by simpa using c.var (i := i) (by simpa using h)
  | _, _, _, i + 1, _, .A f c, h => by simpa using c.var (i := i) (by simpa using h)
theorem Cells.hand : ∀ {e : Env} {σ : Sl} {L : Led} {i : Nat} {a : Addr} {F : Hp → Prop}, Cells Z G e σ L → e[i]? = some (.A a F) → σ[i]? = some (some (.ref a)) ∧ F G
  | _, _, _, _, _, _, .nil, h => by simp at h
  | _, _, _, 0, _, _, .U c, h => by simp at h
  | _, _, _, 0, _, _, .P r c, h => by simp at h
  | _, _, _, 0, _, _, .O r c, h => by simp at h
  | _, _, _, 0, _, _, .A f c, h => by
    simp at h
    obtain ⟨rfl, rfl⟩ := h
    exact ⟨rfl, f G (Same.refl _)⟩
  | _, _, _, i + 1, _, _, .U c, h => by simpa using c.hand (i := i) (by simpa using h)
  | _, _, _, i + 1, _, _, .P r c, h => by simpa using c.hand (i := i) (by simpa using h)
  | _, _, _, i + 1, _, _, .O r c, h => by simpa using c.hand (i := i) (by simpa using h)
  | _, _, _, i + 1, _, _, .A f c, h => by simpa using c.hand (i := i) (by simpa using h)
/-- the own list in slot i: where it stands in the ledger; what a change of it makes -/
theorem Cells.own : ∀ {e : Env} {σ : Sl} {L : Led} {i : Nat} {ds : List D}, Cells Z G e σ L → e[i]? = some (.O ds) →
    ∃ (p : Addr) (xs : List V) (L1 L2 : Led), σ[i]? = some (some (.ref p)) ∧ L = L1 ++ (p, .lst xs) :: L2 ∧ RpAll Z G xs ds ∧
      ∀ G' ys es, Same G G' → RpAll Z G' ys es → Cells Z G' (e.set i (.O es)) σ (L1 ++ (p, .lst ys) :: L2)
  | _, _, _, _, _, .nil, h => by simp at h
  | _, _, _, 0, _, .U c, h => by simp at h
  | _, _, _, 0, _, .P r c, h => by simp at h
  | _, _, _, 0, _, .O r c, h => by
    simp at h
    subst h
    exact ⟨_, _, [], _, rfl, rfl, r, fun G' ys es s q => .O q (c.mono s)⟩
  | _, _, _, 0, _, .A f c, h => by simp at h
  | _, _, _, i + 1, _, .U c, h => by
    obtain ⟨p, xs, L1, L2, a1, a2, a3, a4⟩ := c.own (i := i) (by simpa using h)
    exact ⟨p, xs, L1, L2, by simpa using a1, a2, a3, fun G' ys es s q => .U (a4 G' ys es s q)⟩
  | _, _, _, i + 1, _, .P r c, h => by
    obtain ⟨p, xs, L1, L2, a1, a2, a3, a4⟩ := c.own (i := i) (by simpa using h)
    exact ⟨p, xs, L1, L2, by simpa using a1, a2, a3, fun G' ys es s q => .P (r.mono s) (a4 G' ys es s q)⟩
  | _, _, _, i + 1, _, .O (p := p0) (xs := xs0) r c, h => by
    obtain ⟨p, xs, L1, L2, a1, a2, a3, a4⟩ := c.own (i := i) (by simpa using h)
    exact ⟨p, xs, (p0, .lst xs0) :: L1, L2, by simpa using a1, by rw [a2]; rfl, a3, fun G' ys es s q => .O (r.mono s) (a4 G' ys es s q)⟩
  | _, _, _, i + 1, _, .A f c, h => by
    obtain ⟨p, xs, L1, L2, a1, a2, a3, a4⟩ := c.own (i := i) (by simpa using h)
    exact ⟨p, xs, L1, L2, by simpa using a1, a2, a3, fun G' ys es s q => .A (fun G2 s2 => f G2 (s.trans s2)) (a4 G' ys es s q)⟩
/-- slot i gets a value that stays; an own list that stood there is let go -/
theorem Cells.set {v : V} {d : D} (r : Rp Z G v d) : ∀ {e : Env} {σ : Sl} {L : Led} (i : Nat), Cells Z G e σ L → ∃ L', List.Sublist L' L ∧ Cells Z G (e.set i (.P d)) (σ.set i (some v)) L'
  | _, _, _, _, .nil => ⟨_, List.Sublist.refl _, .nil⟩
  | _, _, _, 0, .U c => ⟨_, List.Sublist.refl _, .P r c⟩
  | _, _, _, 0, .P q c => ⟨_, List.Sublist.refl _, .P r c⟩
  | _, _, _, 0, .O q c => ⟨_, List.sublist_cons_self _ _, .P r c⟩
  | _, _, _, 0, .A f c => ⟨_, List.Sublist.refl _, .P r c⟩
  | _, _, _, i + 1, .U c => by
    obtain ⟨L', s, c'⟩ := c.set r i
    exact ⟨L', s, .U c'⟩
  | _, _, _, i + 1, .P q c => by
    obtain ⟨L', s, c'⟩ := c.set r i
    exact ⟨L', s, .P q c'⟩
  | _, _, _, i + 1, .O q c => by
    obtain ⟨L', s, c'⟩ := c.set r i
    exact ⟨_, s.cons₂ _, .O q c'⟩
  | _, _, _, i + 1, .A f c => by
    obtain ⟨L', s, c'⟩ := c.set r i
    exact ⟨L', s, .A f c'⟩
/-- slot i is forgotten, whatever it holds -/
theorem Cells.unset {x : Option V} : ∀ {e : Env} {σ : Sl} {L : Led} (i : Nat), Cells Z G e σ L → ∃ L', List.Sublist L' L ∧ Cells Z G (e.set i .U) (σ.set i x) L'
  | _, _, _, _, .nil => ⟨_, List.Sublist.refl _, .nil⟩
  | _, _, _, 0, .U c => ⟨_, List.Sublist.refl _, .U c⟩
  | _, _, _, 0, .P q c => ⟨_, List.Sublist.refl _, .U c⟩
  | _, _, _, 0, .O q c => ⟨_, List.sublist_cons_self _ _, .U c⟩
  | _, _, _, 0, .A f c => ⟨_, List.Sublist.refl _, .U c⟩
  | _, _, _, i + 1, .U c => by
    obtain ⟨L', s, c'⟩ := c.unset (x := x) i
    exact ⟨L', s, .U c'⟩
  | _, _, _, i + 1, .P q c => by
    obtain ⟨L', s, c'⟩ := c.unset (x := x) i
    exact ⟨L', s, .P q c'⟩
  | _, _, _, i + 1, .O q c => by
    obtain ⟨L', s, c'⟩ := c.unset (x := x) i
    exact ⟨_, s.cons₂ _, .O q c'⟩
  | _, _, _, i + 1, .A f c => by
    obtain ⟨L', s, c'⟩ := c.unset (x := x) i
    exact ⟨L', s, .A f c'⟩
/-- less is known -/
inductive Wk : Env → Env → Prop
  | nil : Wk [] []
  | keep {c : Cell} {e f : Env} : Wk e f → Wk (c :: e) (c :: f)
  | drop {c : Cell} {e f : Env} : Wk e f → Wk (c :: e) (.U :: f)
theorem Wk.refl : ∀ e : Env, Wk e e
  | [] => .nil
  | _ :: e => .keep (Wk.refl e)
theorem Cells.weak : ∀ {e f : Env}, Wk e f → ∀ {σ : Sl} {L : Led}, Cells Z G e σ L → ∃ L', List.Sublist L' L ∧ Cells Z G f σ L'
  | _, _, .nil, _, _, c => ⟨_, List.Sublist.refl _, c⟩
  | _, _, .keep w, _, _, .U c => by
    obtain ⟨L', s, c'⟩ := c.weak w
    exact ⟨L', s, .U c'⟩
  | _, _, .keep w, _, _, .P q c => by
    obtain ⟨L', s, c'⟩ := c.weak w
    exact ⟨L', s, .P q c'⟩
  | _, _, .keep w, _, _, .O q c => by
    obtain ⟨L', s, c'⟩ := c.weak w
    exact ⟨_, s.cons₂ _, .O q c'⟩
  | _, _, .keep w, _, _, .A f c => by
    obtain ⟨L', s, c'⟩ := c.weak w
    exact ⟨L', s, .A f c'⟩
  | _, _, .drop w, _, _, .U c => by
    obtain ⟨L', s, c'⟩ := c.weak w
    exact ⟨L', s, .U c'⟩
  | _, _, .drop w, _, _, .P q c => by
    obtain ⟨L', s, c'⟩ := c.weak w
    exact ⟨L', s, .U c'⟩
  | _, _, .drop w, _, _, .O q c => by
    obtain ⟨L', s, c'⟩ := c.weak w
    exact ⟨L', s.cons _, .U c'⟩
  | _, _, .drop w, _, _, .A f c => by
    obtain ⟨L', s, c'⟩ := c.weak w
    exact ⟨L', s, .U c'⟩
end
/-- the slots σ show ρ, L is the def's own; what is the caller's own, B, stands as it is told -/
def Ok (Z : Wo) (B : Led) (ρ : Env) (G : Hp) (σ : Sl) (L : Led) (H : Hp) : Prop := Cells Z G ρ σ L ∧ Wd G (L ++ B) H
section
variable {Z : Wo} {G G' H : Hp} {B L : Led} {ρ : Env} {σ : Sl}
theorem Ok.wd (o : Ok Z B ρ G σ L H) : Wd G B H := o.2.sub (List.sublist_append_right _ _)
theorem Ok.same (o : Ok Z B ρ G σ L H) : Same G H := o.2.same
theorem Ok.lay {p : Addr} {u : HO} (o : Ok Z B ρ G σ L H) (h : H p = none) : Same G (upd G p u) ∧ Ok Z B ρ (upd G p u) σ L (upd H p u) :=
  ⟨o.2.layS h, o.1.mono (o.2.layS h), o.2.lay h⟩
theorem Ok.weak {f : Env} (k : Wk ρ f) (o : Ok Z B ρ G σ L H) : ∃ L', Ok Z B f G σ L' H := by
  obtain ⟨L', s, c'⟩ := o.1.weak k
  exact ⟨L', c', o.2.sub (List.Sublist.append s (List.Sublist.refl _))⟩
theorem Ok.set {i : Nat} {v : V} {d : D} (o : Ok Z B ρ G σ L H) (r : Rp Z G v d) : ∃ L', Ok Z B (ρ.set i (.P d)) G (σ.set i (some v)) L' H := by
  obtain ⟨L', s, c'⟩ := o.1.set r i
  exact ⟨L', c', o.2.sub (List.Sublist.append s (List.Sublist.refl _))⟩
theorem Ok.unset {i : Nat} {x : Option V} (o : Ok Z B ρ G σ L H) : ∃ L', Ok Z B (ρ.set i .U) G (σ.set i x) L' H := by
  obtain ⟨L', s, c'⟩ := o.1.unset (x := x) i
  exact ⟨L', c', o.2.sub (List.Sublist.append s (List.Sublist.refl _))⟩
theorem Ok.own {i : Nat} {ds : List D} (o : Ok Z B ρ G σ L H) (h : ρ[i]? = some (.O ds)) : ∃ (p : Addr) (xs : List V) (L1 L2 : Led), σ[i]? = some (some (.ref p)) ∧ L = L1 ++ (p, .lst xs) :: L2 ∧ H p = some (.lst xs) ∧ RpAll Z G xs ds ∧
    ∀ G' ys es, Same G G' → RpAll Z G' ys es → Cells Z G' (ρ.set i (.O es)) σ (L1 ++ (p, .lst ys) :: L2) := by
  obtain ⟨c, w⟩ := o
  obtain ⟨p, xs, L1, L2, a1, a2, a3, a4⟩ := c.own h
  subst a2
  exact ⟨p, xs, L1, L2, a1, rfl, (w.own (p, .lst xs) (by simp)).1, a3, a4⟩
end
theorem Wd.perm {G H : Hp} {L L' : Led} (p : L'.Perm L) (w : Wd G L H) : Wd G L' H where
  same := w.same
  nd := (p.map Prod.fst).nodup_iff.mpr w.nd
  own := fun q hq => w.own q (p.mem_iff.mp hq)
end Dm

set_option Elab.async false
set_option linter.all false
set_option maxRecDepth 100000
namespace Dm
open PySem PySem.Spec PyProof.Rows L2

/-- what a run gives: nothing is said; an own error (its class, its fields); a value -/
inductive Rs (S α : Type) where
  | stuck | ex (c : Nat) (fs : List D) (s : S) | ok (a : α) (s : S)
abbrev MS (S α : Type) := S → Rs S α
section
variable {S α β γ : Type}
def ret (a : α) : MS S α := fun s => .ok a s
def stk : MS S α := fun _ => .stuck
def rse (c : Nat) (fs : List D) : MS S α := fun s => .ex c fs s
def Rs.go (r : Rs S α) (k : α → MS S β) : Rs S β := match r with
  | .stuck => .stuck
  | .ex c fs s => .ex c fs s
  | .ok a s => k a s
def bnd (m : MS S α) (k : α → MS S β) : MS S β := fun s => (m s).go k
def lft (o : Option α) : MS S α := match o with
  | none => stk
  | some a => ret a
theorem bnd_ret (a : α) (k : α → MS S β) : bnd (ret a) k = k a := rfl
theorem bnd_stk (k : α → MS S β) : bnd (stk : MS S α) k = stk := rfl
theorem bnd_rse (c : Nat) (fs : List D) (k : α → MS S β) : bnd (rse c fs : MS S α) k = rse c fs := rfl
theorem lft_some (a : α) : (lft (some a) : MS S α) = ret a := rfl
theorem lft_none : (lft (none : Option α) : MS S α) = stk := rfl
theorem bnd_bnd (m : MS S α) (k : α → MS S β) (l : β → MS S γ) : bnd (bnd m k) l = bnd m fun a => bnd (k a) l := by
  funext s
  show ((m s).go k).go l = (m s).go fun a => bnd (k a) l
  cases m s <;> rfl
theorem bnd_ite (b : Prop) [Decidable b] (m n : MS S α) (k : α → MS S β) : bnd (if b then m else n) k = if b then bnd m k else bnd n k := by
  by_cases h : b
  · rw [if_pos h, if_pos h]
  · rw [if_neg h, if_neg h]
end

/-- where a derivation stands: the classes; what the caller keeps of its own, by the state; what is wished of what is raised -/
structure Jc (S : Type) where
  Z : Wo
  lay : S → Led
  X : Value → Option Addr → Sl → Hp → Prop

section
variable {S : Type} (J : Jc S)
/-- an own error at dx's dict -/
def Out (ρ : Env) (σ : Sl) (L : Led) (G : Hp) (c : Nat) (fs : List D) (s : S) : Prop := ∀ dx vs G' H', Same G G' → Ok J.Z (J.lay s) ρ G' σ L H' → G' dx = some (.xd ((J.Z.fn c).zip vs)) → (J.Z.fn c).length = vs.length → RpAll J.Z G' vs fs → J.X (.ref (J.Z.cl c)) (some dx) σ H'
def Pst {α β : Type} (ρ : Env) (σ : Sl) (L : Led) (G : Hp) (R : Sl → Hp → β → α → Prop) (Q : β → Hp → Prop) : Rs S α → Prop
  | .stuck => False
  | .ex c fs s => Out J ρ σ L G c fs s
  | .ok a s => ∀ b G' H', Same G G' → Ok J.Z (J.lay s) ρ G' σ L H' → R σ G' b a → Q b H'
/-- t does what m says -/
def EvG {α β : Type} (R : Sl → Hp → β → α → Prop) (t : Sl → Hp → (β → Hp → Prop) → Prop) (ρ : Env) (m : MS S α) : Prop :=
  ∀ σ G s H L, Ok J.Z (J.lay s) ρ G σ L H → ∀ Q, Pst J ρ σ L G R Q (m s) → t σ H Q
def rP (_ : Sl) (G : Hp) (v : V) (d : D) : Prop := Rp J.Z G v d
def rA (_ : Sl) (G : Hp) (vs : List V) (ds : List D) : Prop := RpAll J.Z G vs ds
/-- it stays, or it is the own list of a slot -/
def rX (ρ : Env) (σ : Sl) (G : Hp) (v : V) (d : D) : Prop := Rp J.Z G v d ∨ ∃ (i : Nat) (ds : List D), ρ[i]? = some (.O ds) ∧ σ[i]? = some (some v) ∧ d = .lst ds
def rE {α : Type} (_ : Sl) (_ : Hp) (a b : α) : Prop := a = b
abbrev Ev (te : TE) (ρ : Env) (m : MS S D) : Prop := EvG J (rP J) te ρ m
abbrev EvX (te : TE) (ρ : Env) (m : MS S D) : Prop := EvG J (rX J ρ) te ρ m
abbrev EvA (ta : TA) (ρ : Env) (m : MS S (List D)) : Prop := EvG J (rA J) ta ρ m
abbrev EvT (tt : TT) (ρ : Env) (m : MS S Bool) : Prop := EvG J rE tt ρ m
abbrev EvO (to : TO) (ρ : Env) (m : MS S (Option Int)) : Prop := EvG J rE to ρ m
end
section
variable {S : Type} {J : Jc S} {α β γ δ : Type} {ρ : Env} {σ : Sl} {G G' H : Hp} {L : Led}
theorem Out.mono {c : Nat} {fs : List D} {s : S} (e : Same G G') (h : Out J ρ σ L G c fs s) : Out J ρ σ L G' c fs s := fun dx vs G2 H2 a b => h dx vs G2 H2 (e.trans a) b
theorem Pst.mono {R : Sl → Hp → β → α → Prop} {Q : β → Hp → Prop} (e : Same G G') : ∀ {r : Rs S α}, Pst J ρ σ L G R Q r → Pst J ρ σ L G' R Q r
  | .stuck, h => h
  | .ex _ _ _, h => Out.mono e h
  | .ok _ _, h => fun b G2 H2 a c => h b G2 H2 (e.trans a) c
theorem EvG.run {R1 : Sl → Hp → β → α → Prop} {R2 : Sl → Hp → δ → γ → Prop} {t : Sl → Hp → (β → Hp → Prop) → Prop} {Q : δ → Hp → Prop} {m : MS S α} {k : α → MS S γ} {s : S} (h1 : EvG J R1 t ρ m) (o : Ok J.Z (J.lay s) ρ G σ L H)
    (h : Pst J ρ σ L G R2 Q (bnd m k s)) {P : β → Hp → Prop} (kk : ∀ a b G' s' H', Same G G' → Ok J.Z (J.lay s') ρ G' σ L H' → R1 σ G' b a → Pst J ρ σ L G' R2 Q (k a s') → P b H') : t σ H P := by
  refine h1 σ G s H L o _ ?_
  have h' : Pst J ρ σ L G R2 Q ((m s).go k) := h
  cases e : m s with
  | stuck =>
    rw [e] at h'
    exact h'
  | ex c fs s' =>
    rw [e] at h'
    exact h'
  | ok a s' =>
    rw [e] at h'
    exact fun b G' H' sm o' r => kk a b G' s' H' sm o' r (Pst.mono sm h')
/-- a value that is at hand -/
theorem EvG.pure {R : Sl → Hp → β → α → Prop} {t : Sl → Hp → (β → Hp → Prop) → Prop} {a : α} (h : ∀ σ G s H L, Ok J.Z (J.lay s) ρ G σ L H → ∀ Q : β → Hp → Prop, (∀ b G' H', Same G G' → Ok J.Z (J.lay s) ρ G' σ L H' → R σ G' b a → Q b H') → t σ H Q) : EvG J R t ρ (ret a) :=
  fun σ G s H L o Q q => h σ G s H L o Q q
/-- what is left open may be anything -/
theorem Pst.lft {R : Sl → Hp → β → α → Prop} {Q : β → Hp → Prop} {o : Option α} {s : S} {P : Prop} (h : Pst J ρ σ L G R Q ((lft o : MS S α) s)) (k : ∀ a, o = some a → Pst J ρ σ L G R Q (.ok a s) → P) : P := by
  cases o with
  | none => exact h.elim
  | some a => exact k a rfl h
theorem Ev.x {te : TE} {m : MS S D} (h : Ev J te ρ m) : EvX J te ρ m := fun σ G s H L o Q q => h σ G s H L o Q (by
  cases e : m s with
  | stuck =>
    rw [e] at q
    exact q
  | ex c fs s' =>
    rw [e] at q
    exact q
  | ok a s' =>
    rw [e] at q
    exact fun b G' H' sm o' r => q b G' H' sm o' (.inl r))
theorem rX.mono {v : V} {d : D} (e : Same G G') (h : rX J ρ σ G v d) : rX J ρ σ G' v d := h.imp (fun r => r.mono e) id
/-- reading a list that stays or is a slot's own -/
theorem rX.lst {B : Led} {v : V} {ds : List D} (o : Ok J.Z B ρ G σ L H) (h : rX J ρ σ G v (.lst ds)) : ∃ a xs, v = .ref a ∧ H a = some (.lst xs) ∧ RpAll J.Z G xs ds := by
  rcases h with h | ⟨i, es, h1, h2, h3⟩
  · cases h with
    | lst ha r => exact ⟨_, _, rfl, o.same _ _ ha, r⟩
  · cases h3
    obtain ⟨p, xs, _, _, a1, _, a2, a3, _⟩ := o.own h1
    rw [a1] at h2
    cases h2
    exact ⟨p, xs, rfl, a2, a3⟩
theorem rX.tup {B : Led} {v : V} {ds : List D} (o : Ok J.Z B ρ G σ L H) (h : rX J ρ σ G v (.tup ds)) : ∃ a xs, v = .ref a ∧ H a = some (.tup xs) ∧ RpAll J.Z G xs ds := by
  rcases h with h | ⟨i, es, h1, h2, h3⟩
  · cases h with
    | tup ha r => exact ⟨_, _, rfl, o.same _ _ ha, r⟩
  · cases h3
theorem rX.dct {B : Led} {v : V} {kvs : List (Key × V)} (o : Ok J.Z B ρ G σ L H) (h : rX J ρ σ G v (.dct kvs)) : ∃ a, v = .ref a ∧ H a = some (.dK kvs) := by
  rcases h with h | ⟨i, es, h1, h2, h3⟩
  · cases h with
    | dct ha => exact ⟨_, rfl, o.same _ _ ha⟩
  · cases h3
theorem rX.obj {B : Led} {v : V} {c : Nat} {ds : List D} (o : Ok J.Z B ρ G σ L H) (h : rX J ρ σ G v (.obj c ds)) : ∃ a dx xs, v = .ref a ∧ H a = some (.ins (J.Z.cl c) dx ((J.Z.fn c).zip xs)) ∧ (J.Z.fn c).length = xs.length ∧ RpAll J.Z G xs ds := by
  rcases h with h | ⟨i, es, h1, h2, h3⟩
  · cases h with
    | obj ha hl r => exact ⟨_, _, _, rfl, o.same _ _ ha, hl, r⟩
  · cases h3
theorem rX.int {v : V} {i : Int} (h : rX J ρ σ G v (.int i)) : v = .int i := by
  rcases h with h | ⟨_, _, _, _, h3⟩
  · cases h
    rfl
  · cases h3
theorem rX.bl {v : V} {b : Bool} (h : rX J ρ σ G v (.bl b)) : v = .bl b := by
  rcases h with h | ⟨_, _, _, _, h3⟩
  · cases h
    rfl
  · cases h3
theorem rX.str {v : V} {x : Str} (h : rX J ρ σ G v (.str x)) : v = .str x := by
  rcases h with h | ⟨_, _, _, _, h3⟩
  · cases h
    rfl
  · cases h3
theorem rX.non {v : V} (h : rX J ρ σ G v .non) : v = .non := by
  rcases h with h | ⟨_, _, _, _, h3⟩
  · cases h
    rfl
  · cases h3

/-! ### names and constants -/
theorem ev_var {i : Nat} {d : D} (h : ρ[i]? = some (.P d)) : Ev J (tVar i) ρ (ret d) := EvG.pure fun σ G s H L o Q q => by
  obtain ⟨v, h1, h2⟩ := o.1.var h
  exact ⟨v, h1, q v G H (Same.refl _) o h2⟩
theorem ex_own {i : Nat} {ds : List D} (h : ρ[i]? = some (.O ds)) : EvX J (tVar i) ρ (ret (.lst ds)) := EvG.pure fun σ G s H L o Q q => by
  obtain ⟨p, xs, _, _, h1, _, _, _, _⟩ := o.own h
  exact ⟨.ref p, h1, q _ G H (Same.refl _) o (.inr ⟨i, ds, h, h1, rfl⟩)⟩
theorem ev_int {i : Int} : Ev J (tC (.int i)) ρ (ret (.int i)) := EvG.pure fun σ G s H L o Q q => q _ G H (Same.refl _) o (.int i)
theorem ev_bl {b : Bool} : Ev J (tC (.bl b)) ρ (ret (.bl b)) := EvG.pure fun σ G s H L o Q q => q _ G H (Same.refl _) o (.bl b)
theorem ev_str {x : Str} : Ev J (tC (.str x)) ρ (ret (.str x)) := EvG.pure fun σ G s H L o Q q => q _ G H (Same.refl _) o (.str x)
theorem ev_non : Ev J (tC .non) ρ (ret .non) := EvG.pure fun σ G s H L o Q q => q _ G H (Same.refl _) o .non

/-! ### operators by values: f says what r gives -/
/-- r reads only -/
def Op2 (J : Jc S) (ρ : Env) (r : R2) (f : D → D → Option D) : Prop := ∀ σ G s H L x y d e z, Ok J.Z (J.lay s) ρ G σ L H → rX J ρ σ G x d → rX J ρ σ G y e → f d e = some z →
  ∀ Q : VK, (∀ v G' H', Same G G' → Ok J.Z (J.lay s) ρ G' σ L H' → Rp J.Z G' v z → Q v H') → r x y H Q
theorem ev_op {r : R2} {ta tb : TE} {f : D → D → Option D} {ma mb : MS S D} (ho : Op2 J ρ r f) (ha : EvX J ta ρ ma) (hb : EvX J tb ρ mb) : Ev J (tOp r ta tb) ρ (bnd ma fun d => bnd mb fun e => lft (f d e)) :=
  fun σ G s H L o Q h => ha.run o h fun d x G1 s1 H1 e1 o1 rx h1 => hb.run o1 h1 fun e y G2 s2 H2 e2 o2 ry h2 => Pst.lft h2 fun z hz q => ho σ G2 s2 H2 L x y d e z o2 (rX.mono e2 rx) ry hz Q q
end
end Dm

set_option Elab.async false
set_option linter.all false
set_option maxRecDepth 100000
namespace Dm
open PySem PySem.Spec PyProof.Rows L2

/-! ### more than one reading of an operator -/
theorem OpR.either {X : Cx} {f : Value → Value → Sem Value} {r r' : R2} (h : OpR X f r) (h' : OpR X f r') : OpR X f (fun x y H Q => r x y H Q ∨ r' x y H Q) :=
  fun pins s σ H x y v u Q I rx ry q => q.elim (h pins s σ H x y v u Q I rx ry) (h' pins s σ H x y v u Q I rx ry)
theorem CallR.either {X : Cx} {f : Value} {r r' : List V → Hp → VK → Prop} (h : CallR X f r) (h' : CallR X f r') : CallR X f (fun xs H Q => r xs H Q ∨ r' xs H Q) :=
  fun pins s σ H xs us Q I rx q => q.elim (h pins s σ H xs us Q I rx) (h' pins s σ H xs us Q I rx)

/-! ### what the operators do to data -/
def tooLong : Nat := 1000000
theorem long_ok {n : Nat} (h : n < tooLong) : n ≤ sizeLine := Nat.le_of_lt (Nat.lt_trans h (by decide))
theorem long_lt {n : Nat} (h : n < tooLong) : n < sizeLine := Nat.lt_trans h (by decide)
def oI (f : Int → Int → Int) : D → D → Option D
  | .int i, .int j => some (.int (f i j))
  | _, _ => none
def oB (f : Int → Int → Bool) : D → D → Option D
  | .int i, .int j => some (.bl (f i j))
  | _, _ => none
def oIc (C : Int → Int → Bool) (f : Int → Int → Int) : D → D → Option D
  | .int i, .int j => if C i j then some (.int (f i j)) else none
  | _, _ => none
def oSub : D → D → Option D := oI fun i j => i - j
def oMod : D → D → Option D := oIc (fun _ j => decide (j ≠ 0)) fun i j => i.fmod j
def oDiv : D → D → Option D := oIc (fun _ j => decide (0 < j ∧ j.natAbs.log2 < 9000)) fun i j => i / j
def oPow : D → D → Option D := oIc (fun i j => decide (0 ≤ j ∧ j ≤ 1000000 ∧ i.natAbs < 2 ^ 64)) fun i j => i ^ j.toNat
def oLt : D → D → Option D := oB fun i j => decide (i < j)
def oLe : D → D → Option D := oB fun i j => decide (i ≤ j)
def oGt : D → D → Option D := oB fun i j => decide (j < i)
def oGe : D → D → Option D := oB fun i j => decide (j ≤ i)
/-- + of ints, texts, lists, tuples -/
def oAdd : D → D → Option D
  | .int i, .int j => some (.int (i + j))
  | .str x, .str y => if x.length + y.length < tooLong then some (.str (x ++ y)) else none
  | .lst xs, .lst ys => if xs.length + ys.length < tooLong then some (.lst (xs ++ ys)) else none
  | .tup xs, .tup ys => if xs.length + ys.length < tooLong then some (.tup (xs ++ ys)) else none
  | _, _ => none
/-- * of ints; a list several times -/
def oMul : D → D → Option D
  | .int i, .int j => if i.natAbs.log2 + j.natAbs.log2 < 1000000 then some (.int (i * j)) else none
  | .lst xs, .int k => if xs.length * k.toNat < tooLong ∧ -(2 ^ 63) ≤ k ∧ k < 2 ^ 63 then some (.lst (List.replicate k.toNat xs).flatten) else none
  | _, _ => none
def oNeg : D → Option D
  | .int i => some (.int (-i))
  | _ => none
def isN : D → Bool
  | .non => true
  | _ => false
def oIs (a : D) : D → Option D
  | .non => some (.bl (isN a))
  | _ => none
def oNis (a : D) : D → Option D
  | .non => some (.bl (!isN a))
  | _ => none
/-! as data that == compares -/
mutual
def toPy : D → Option PyData
  | .non => some .none
  | .bl b => some (.bool b)
  | .int i => some (.int i)
  | .str x => some (.str x)
  | .lst xs => (toPys xs).map PyData.list
  | .tup xs => (toPys xs).map PyData.tuple
  | .obj _ _ => none
  | .dct _ => none
def toPys : List D → Option (List PyData)
  | [] => some []
  | x :: xs => match toPy x, toPys xs with
    | some a, some b => some (a :: b)
    | _, _ => none
end
def eqD (d e : D) : Option Bool := match toPy d, toPy e with
  | some a, some b => if SeqAt.shaped a && SeqAt.shaped b then some (PyData.eqv a b) else none
  | _, _ => none
def oEq (d e : D) : Option D := (eqD d e).map D.bl
def oNe (d e : D) : Option D := (eqD d e).map fun b => .bl (!b)
/-- a value without parts -/
def flt : D → Option V
  | .non => some .non
  | .bl b => some (.bl b)
  | .int i => some (.int i)
  | .str x => some (.str x)
  | _ => none
def flts : List D → Option (List V)
  | [] => some []
  | x :: xs => match flt x, flts xs with
    | some a, some b => some (a :: b)
    | _, _ => none
def items : D → Option (List D)
  | .lst xs => some xs
  | .tup xs => some xs
  | _ => none
def memD (d e : D) : Option Bool := match flt d, (items e).bind flts with
  | some v, some vs => some (inV v vs)
  | _, _ => none
def oIn (d e : D) : Option D := (memD d e).map D.bl
def oNin (d e : D) : Option D := (memD d e).map fun b => .bl (!b)
def oIx : D → D → Option D
  | .lst xs, .int i => atI xs i
  | .tup xs, .int i => atI xs i
  | .str z, .int i => if z.length < tooLong then (atI z.cps.toList i).map fun c => .str ⟨#[c]⟩ else none
  | _, _ => none
def cut {α : Type} (xs : List α) (lo hi : Option Int) : List α := (xs.drop (HT.sIx xs.length 0 lo)).take (HT.sIx xs.length xs.length hi - HT.sIx xs.length 0 lo)
def oSl (d : D) (lo hi : Option Int) : Option D := match d with
  | .lst xs => some (.lst (cut xs lo hi))
  | .tup xs => some (.tup (cut xs lo hi))
  | .str z => if z.length < tooLong then some (.str (cutS z lo hi)) else none
  | _ => none
def oInt? : D → Option (Option Int)
  | .int i => some (some i)
  | _ => none
/-- truth -/
def tru : D → Option Bool
  | .non => some false
  | .bl b => some b
  | .int i => some (i != 0)
  | .str y => if y.length < tooLong then some ((y.length : Int) != 0) else none
  | .lst xs => some (!xs.isEmpty)
  | .tup xs => some (!xs.isEmpty)
  | .dct kvs => some (!kvs.isEmpty)
  | .obj _ _ => none
def asB : D → Option Bool
  | .bl b => some b
  | _ => none
def oLen : D → Option D
  | .lst xs => some (.int xs.length)
  | .tup xs => some (.int xs.length)
  | .str z => if z.length < tooLong then some (.int z.length) else none
  | .dct kvs => some (.int kvs.length)
  | _ => none
def oList : D → Option (List D) := items
def oTuple (d : D) : Option D := (items d).map D.tup
def oAbs : D → Option D
  | .int i => some (.int (if i < 0 then -i else i))
  | _ => none
def oMax2 : D → D → Option D := oI fun i j => if j > i then j else i
def oMin2 : D → D → Option D := oI fun i j => if j < i then j else i
def oIntOf : D → Option D
  | .int i => some (.int i)
  | .bl k => some (.int (if k then 1 else 0))
  | _ => none
def oNot (d : D) : Option D := (tru d).map fun b => .bl (!b)

section
variable {S : Type} {J : Jc S} {α β γ δ : Type} {ρ : Env} {σ : Sl} {G G' H : Hp} {B L : Led}
theorem rX.flt {v u : V} {d : D} (h : rX J ρ σ G v d) (e : flt d = some u) : v = u := by
  cases d with
  | non => cases e; exact rX.non h
  | bl b => cases e; exact rX.bl h
  | int i => cases e; exact rX.int h
  | str x => cases e; exact rX.str h
  | _ => cases e
theorem RpAll.flts {Z : Wo} : ∀ {vs us : List V} {ds : List D}, RpAll Z G vs ds → flts ds = some us → vs = us
  | _, _, _, .nil, e => by
    cases e
    rfl
  | v :: vs, us, d :: ds, .cons h r, e => by
    unfold Dm.flts at e
    cases e1 : Dm.flt d with
    | none => rw [e1] at e; cases e
    | some a =>
      rw [e1] at e
      cases e2 : Dm.flts ds with
      | none => rw [e2] at e; cases e
      | some b =>
        rw [e2] at e
        cases e
        have h1 : v = a := by
          cases d with
          | non => cases e1; cases h; rfl
          | bl b => cases e1; cases h; rfl
          | int i => cases e1; cases h; rfl
          | str x => cases e1; cases h; rfl
          | _ => cases e1
        rw [h1, r.flts e2]
theorem flt_flat : ∀ {d : D} {v : V}, flt d = some v → flatV v = true
  | .non, _, e => by cases e; rfl
  | .bl _, _, e => by cases e; rfl
  | .int _, _, e => by cases e; rfl
  | .str _, _, e => by cases e; rfl
  | .lst _, _, e => by cases e
  | .tup _, _, e => by cases e
  | .obj _ _, _, e => by cases e
  | .dct _, _, e => by cases e
theorem flts_flat : ∀ {ds : List D} {vs : List V}, flts ds = some vs → vs.all flatV = true
  | [], _, e => by cases e; rfl
  | d :: ds, vs, e => by
    unfold Dm.flts at e
    cases e1 : Dm.flt d with
    | none => rw [e1] at e; cases e
    | some a =>
      rw [e1] at e
      cases e2 : Dm.flts ds with
      | none => rw [e2] at e; cases e
      | some b =>
        rw [e2] at e
        cases e
        rw [List.all_cons, flt_flat e1, flts_flat e2]
        rfl
theorem rX.items {v : V} {d : D} {ds : List D} (o : Ok J.Z B ρ G σ L H) (h : rX J ρ σ G v d) (e : items d = some ds) : ∃ p xs, v = .ref p ∧ RpAll J.Z G xs ds ∧ ((d = .lst ds ∧ H p = some (.lst xs)) ∨ (d = .tup ds ∧ H p = some (.tup xs))) := by
  cases d with
  | lst xs =>
    cases e
    obtain ⟨a, ys, h1, h2, h3⟩ := rX.lst o h
    exact ⟨a, ys, h1, h3, .inl ⟨rfl, h2⟩⟩
  | tup xs =>
    cases e
    obtain ⟨a, ys, h1, h2, h3⟩ := rX.tup o h
    exact ⟨a, ys, h1, h3, .inr ⟨rfl, h2⟩⟩
  | _ => cases e
theorem sq_l {K : PySem.W.Frag} {a : Addr} {xs : List V} (h : H a = some (.lst xs)) : SqL K H a xs := .inl (.inl h)
theorem sq_t {K : PySem.W.Frag} {a : Addr} {xs : List V} (h : H a = some (.tup xs)) : SqT K H a xs := .inl (.inl h)
mutual
theorem Rp.dp {Z : Wo} {K : PySem.W.Frag} (s : Same G H) : ∀ {d : D} {v : V} {a : PyData}, Rp Z G v d → toPy d = some a → Dp K H v a
  | .non, _, _, h, e => by cases e; cases h; exact .non
  | .bl b, _, _, h, e => by cases e; cases h; exact .bl b
  | .int i, _, _, h, e => by cases e; cases h; exact .int i
  | .str x, _, _, h, e => by cases e; cases h; exact .str x
  | .lst ds, _, _, h, e => by
    unfold toPy at e
    cases e1 : toPys ds with
    | none => rw [e1] at e; cases e
    | some as =>
      rw [e1] at e
      cases e
      cases h with
      | lst ha r => exact .lst (sq_l (s _ _ ha)) (RpAll.dp s r e1)
  | .tup ds, _, _, h, e => by
    unfold toPy at e
    cases e1 : toPys ds with
    | none => rw [e1] at e; cases e
    | some as =>
      rw [e1] at e
      cases e
      cases h with
      | tup ha r => exact .tup (sq_t (s _ _ ha)) (RpAll.dp s r e1)
  | .obj _ _, _, _, _, e => by cases e
  | .dct _, _, _, _, e => by cases e
theorem RpAll.dp {Z : Wo} {K : PySem.W.Frag} (s : Same G H) : ∀ {ds : List D} {vs : List V} {as : List PyData}, RpAll Z G vs ds → toPys ds = some as → DpAll K H vs as
  | [], _, _, h, e => by
    cases e
    cases h
    exact .nil
  | d :: ds, _, _, h, e => by
    unfold toPys at e
    cases e1 : toPy d with
    | none => rw [e1] at e; cases e
    | some a =>
      cases e2 : toPys ds with
      | none => rw [e1, e2] at e; cases e
      | some b =>
        rw [e1, e2] at e
        cases e
        cases h with
        | cons h1 h2 => exact .cons (Rp.dp s h1 e1) (RpAll.dp s h2 e2)
end
theorem rX.dp {K : PySem.W.Frag} {v : V} {d : D} {a : PyData} (o : Ok J.Z B ρ G σ L H) (h : rX J ρ σ G v d) (e : toPy d = some a) : Dp K H v a := by
  rcases h with h | ⟨i, ds, h1, h2, h3⟩
  · exact h.dp o.same e
  · obtain ⟨p, xs, q1, q2, q3⟩ := rX.lst (J := J) (ds := ds) o (.inr ⟨i, ds, h1, h2, rfl⟩)
    subst q1
    subst h3
    unfold toPy at e
    cases e1 : toPys ds with
    | none => rw [e1] at e; cases e
    | some as =>
      rw [e1] at e
      cases e
      exact .lst (sq_l q2) (q3.dp o.same e1)

/-! ### the operators' readings -/
theorem o2_I {f : Int → Int → Int} : Op2 J ρ (rI0 fun i j => .int (f i j)) (oI f) := fun σ G s H L x y d e z o rx ry hz Q q => by
  cases d with
  | int i =>
    cases e with
    | int j =>
      cases hz
      exact ⟨i, j, rX.int rx, rX.int ry, q _ G H (Same.refl _) o (.int _)⟩
    | _ => cases hz
  | _ => cases hz
theorem o2_B {f : Int → Int → Bool} : Op2 J ρ (rI0 fun i j => .bl (f i j)) (oB f) := fun σ G s H L x y d e z o rx ry hz Q q => by
  cases d with
  | int i =>
    cases e with
    | int j =>
      cases hz
      exact ⟨i, j, rX.int rx, rX.int ry, q _ G H (Same.refl _) o (.bl _)⟩
    | _ => cases hz
  | _ => cases hz
theorem o2_Ic {C : Int → Int → Prop} {Cb : Int → Int → Bool} {f : Int → Int → Int} (hC : ∀ i j, Cb i j = true → C i j) : Op2 J ρ (rI C fun i j => .int (f i j)) (oIc Cb f) := fun σ G s H L x y d e z o rx ry hz Q q => by
  cases d with
  | int i =>
    cases e with
    | int j =>
      unfold oIc at hz
      dsimp only at hz
      by_cases h : Cb i j = true
      · rw [if_pos h] at hz
        cases hz
        exact ⟨i, j, rX.int rx, rX.int ry, hC i j h, q _ G H (Same.refl _) o (.int _)⟩
      · rw [if_neg h] at hz
        cases hz
    | _ => cases hz
  | _ => cases hz
theorem o2_sub : Op2 J ρ (rI0 fun i j => .int (i - j)) oSub := o2_I
theorem o2_mod : Op2 J ρ (rI (fun _ j => j ≠ 0) fun i j => .int (i.fmod j)) oMod := o2_Ic fun _ _ h => of_decide_eq_true h
theorem o2_div : Op2 J ρ (rI CDivW fun i j => .int (i / j)) oDiv := o2_Ic fun i j h => show (0 < j ∧ j.natAbs.log2 < 9000) from of_decide_eq_true h
theorem o2_pow : Op2 J ρ (rI CPow fun i j => .int (i ^ j.toNat)) oPow := o2_Ic fun i j h => show (0 ≤ j ∧ j ≤ 1000000 ∧ i.natAbs < 2 ^ 64) from of_decide_eq_true h
theorem o2_lt : Op2 J ρ (rI0 fun i j => .bl (decide (i < j))) oLt := o2_B
theorem o2_le : Op2 J ρ (rI0 fun i j => .bl (decide (i ≤ j))) oLe := o2_B
theorem o2_gt : Op2 J ρ (rI0 fun i j => .bl (decide (j < i))) oGt := o2_B
theorem o2_ge : Op2 J ρ (rI0 fun i j => .bl (decide (j ≤ i))) oGe := o2_B
def rAdd (K : PySem.W.Frag) : R2 := fun x y H Q => ((rI0 (fun i j => .int (i + j)) x y H Q ∨ (∃ i j, x = .str i ∧ y = .str j ∧ i.length + j.length ≤ sizeLine ∧ Q (.str (i ++ j)) H)) ∨ rCat x y H Q) ∨ rCatA K x y H Q
theorem op_addG {X : Cx} : OpR X (binaryOp .Add) (rAdd X.K) := OpR.either (OpR.either (OpR.either op_add op_add_str) op_cat) op_catA
theorem rp_ref {Z : Wo} {v : V} {xs : List D} (h : Rp Z G v (.tup xs)) : ∃ a ys, v = .ref a ∧ G a = some (.tup ys) ∧ RpAll Z G ys xs := by
  cases h with
  | tup ha r => exact ⟨_, _, rfl, ha, r⟩
theorem o2_add {K : PySem.W.Frag} : Op2 J ρ (rAdd K) oAdd := fun σ G s H L x y d e z o rx ry hz Q q => by
  cases d with
  | int i =>
    cases e with
    | int j =>
      cases hz
      exact .inl (.inl (.inl ⟨i, j, rX.int rx, rX.int ry, q _ G H (Same.refl _) o (.int _)⟩))
    | _ => cases hz
  | str i =>
    cases e with
    | str j =>
      unfold oAdd at hz
      dsimp only at hz
      split at hz
      · rename_i hl
        cases hz
        exact .inl (.inl (.inr ⟨i, j, rX.str rx, rX.str ry, long_ok hl, q _ G H (Same.refl _) o (.str _)⟩))
      · cases hz
    | _ => cases hz
  | lst xs =>
    cases e with
    | lst ys =>
      unfold oAdd at hz
      dsimp only at hz
      split at hz
      · rename_i hl
        cases hz
        obtain ⟨a, vs, rfl, h1, r1⟩ := rX.lst o rx
        obtain ⟨b, us, rfl, h2, r2⟩ := rX.lst o ry
        refine .inl (.inr ⟨a, b, vs, us, rfl, rfl, h1, h2, long_ok (by rw [r1.length, r2.length]; exact hl), fun p hp => ?_⟩)
        obtain ⟨sm, o'⟩ := o.lay (u := .lst (vs ++ us)) hp
        exact q _ _ _ sm o' (.lst upd_same ((r1.append r2).mono sm))
      · cases hz
    | _ => cases hz
  | tup xs =>
    cases e with
    | tup ys =>
      unfold oAdd at hz
      dsimp only at hz
      split at hz
      · rename_i hl
        cases hz
        have rx' : Rp J.Z G x (.tup xs) := by
          rcases rx with h | ⟨_, _, _, _, h3⟩
          · exact h
          · cases h3
        have ry' : Rp J.Z G y (.tup ys) := by
          rcases ry with h | ⟨_, _, _, _, h3⟩
          · exact h
          · cases h3
        obtain ⟨a, vs, rfl, h1, r1⟩ := rp_ref rx'
        obtain ⟨b, us, rfl, h2, r2⟩ := rp_ref ry'
        have l1 := r1.length
        have l2 := r2.length
        refine .inr ⟨a, b, vs, us, rfl, rfl, sq_t (o.same _ _ h1), sq_t (o.same _ _ h2), long_ok (by rw [l1, l2]; exact hl), fun e0 => ?_, fun _ e0 => ?_, fun _ _ p hp => ?_⟩
        · subst e0
          have e1 : xs = [] := List.eq_nil_of_length_eq_zero l1.symm
          rw [e1] at q
          exact q _ G H (Same.refl _) o ry'
        · subst e0
          have e1 : ys = [] := List.eq_nil_of_length_eq_zero l2.symm
          rw [e1, List.append_nil] at q
          exact q _ G H (Same.refl _) o rx'
        · obtain ⟨sm, o'⟩ := o.lay (u := .tup (vs ++ us)) hp
          exact q _ _ _ sm o' (.tup upd_same ((r1.append r2).mono sm))
      · cases hz
    | _ => cases hz
  | _ => cases hz
def rMul : R2 := fun x y H Q => rI CMulW (fun i j => .int (i * j)) x y H Q ∨ rRep x y H Q
theorem op_mulG {X : Cx} : OpR X (binaryOp .Mult) rMul := OpR.either op_mulW op_rep
theorem RpAll.rep {Z : Wo} {xs : List V} {ds : List D} (r : RpAll Z G xs ds) : ∀ n : Nat, RpAll Z G (List.replicate n xs).flatten (List.replicate n ds).flatten
  | 0 => .nil
  | n + 1 => by
    rw [List.replicate_succ, List.replicate_succ, List.flatten_cons, List.flatten_cons]
    exact r.append (RpAll.rep r n)
theorem o2_mul : Op2 J ρ rMul oMul := fun σ G s H L x y d e z o rx ry hz Q q => by
  cases d with
  | int i =>
    cases e with
    | int j =>
      unfold oMul at hz
      dsimp only at hz
      split at hz
      · rename_i hl
        cases hz
        exact .inl ⟨i, j, rX.int rx, rX.int ry, hl, q _ G H (Same.refl _) o (.int _)⟩
      · cases hz
    | _ => cases hz
  | lst xs =>
    cases e with
    | int k =>
      unfold oMul at hz
      dsimp only at hz
      split at hz
      · rename_i hl
        cases hz
        obtain ⟨a, vs, rfl, h1, r1⟩ := rX.lst o rx
        refine .inr ⟨a, k, vs, rfl, rX.int ry, h1, hl.2.1, hl.2.2, long_ok (by rw [r1.length]; exact hl.1), fun p hp => ?_⟩
        obtain ⟨sm, o'⟩ := o.lay (u := .lst (List.replicate k.toNat vs).flatten) hp
        exact q _ _ _ sm o' (.lst upd_same ((r1.rep k.toNat).mono sm))
      · cases hz
    | _ => cases hz
  | _ => cases hz
theorem isN_dec {v : V} {d : D} (o : Ok J.Z B ρ G σ L H) (h : rX J ρ σ G v d) : decide (v = .non) = isN d := by
  cases d with
  | non =>
    rw [rX.non h]
    rfl
  | lst ds =>
    obtain ⟨a, _, rfl, _, _⟩ := rX.lst o h
    exact decide_eq_false fun e => by cases e
  | bl b =>
    rw [rX.bl h]
    exact decide_eq_false fun e => by cases e
  | int b =>
    rw [rX.int h]
    exact decide_eq_false fun e => by cases e
  | str b =>
    rw [rX.str h]
    exact decide_eq_false fun e => by cases e
  | tup ds =>
    obtain ⟨a, _, rfl, _, _⟩ := rX.tup o h
    exact decide_eq_false fun e => by cases e
  | dct ds =>
    obtain ⟨a, rfl, _⟩ := rX.dct o h
    exact decide_eq_false fun e => by cases e
  | obj c ds =>
    obtain ⟨a, _, _, rfl, _⟩ := rX.obj o h
    exact decide_eq_false fun e => by cases e
theorem o2_is : Op2 J ρ (fun x y H Q => y = .non ∧ Q (.bl (decide (x = .non))) H) oIs := fun σ G s H L x y d e z o rx ry hz Q q => by
  cases e with
  | non =>
    cases hz
    refine ⟨rX.non ry, ?_⟩
    rw [isN_dec o rx]
    exact q _ G H (Same.refl _) o (.bl _)
  | _ => cases hz
theorem o2_nis : Op2 J ρ (fun x y H Q => y = .non ∧ Q (.bl (!decide (x = .non))) H) oNis := fun σ G s H L x y d e z o rx ry hz Q q => by
  cases e with
  | non =>
    cases hz
    refine ⟨rX.non ry, ?_⟩
    rw [isN_dec o rx]
    exact q _ G H (Same.refl _) o (.bl _)
  | _ => cases hz
theorem eqD_some {d e : D} {b : Bool} (h : eqD d e = some b) : ∃ a c, toPy d = some a ∧ toPy e = some c ∧ SeqAt.shaped a = true ∧ SeqAt.shaped c = true ∧ PyData.eqv a c = b := by
  unfold eqD at h
  cases e1 : toPy d with
  | none => rw [e1] at h; cases h
  | some a =>
    cases e2 : toPy e with
    | none => rw [e1, e2] at h; cases h
    | some c =>
      rw [e1, e2] at h
      dsimp only at h
      by_cases hs : (SeqAt.shaped a && SeqAt.shaped c) = true
      · rw [if_pos hs] at h
        cases h
        rw [Bool.and_eq_true] at hs
        exact ⟨a, c, rfl, rfl, hs.1, hs.2, rfl⟩
      · rw [if_neg hs] at h
        cases h
theorem o2_eq {K : PySem.W.Frag} : Op2 J ρ (rEqD K) oEq := fun σ G s H L x y d e z o rx ry hz Q q => by
  unfold oEq at hz
  cases h : eqD d e with
  | none => rw [h] at hz; cases hz
  | some b =>
    rw [h] at hz
    cases hz
    obtain ⟨a, c, e1, e2, s1, s2, e3⟩ := eqD_some h
    subst e3
    exact ⟨a, c, rX.dp o rx e1, rX.dp o ry e2, s1, s2, q _ G H (Same.refl _) o (.bl _)⟩
theorem o2_ne {K : PySem.W.Frag} : Op2 J ρ (rNeD K) oNe := fun σ G s H L x y d e z o rx ry hz Q q => by
  unfold oNe at hz
  cases h : eqD d e with
  | none => rw [h] at hz; cases hz
  | some b =>
    rw [h] at hz
    cases hz
    obtain ⟨a, c, e1, e2, s1, s2, e3⟩ := eqD_some h
    subst e3
    exact ⟨a, c, rX.dp o rx e1, rX.dp o ry e2, s1, s2, q _ G H (Same.refl _) o (.bl _)⟩
theorem memD_in {K : PySem.W.Frag} {x y : V} {d e : D} {b : Bool} (o : Ok J.Z B ρ G σ L H) (rx : rX J ρ σ G x d) (ry : rX J ρ σ G y e) (h : memD d e = some b) :
    ∃ p xs, y = .ref p ∧ (SqL K H p xs ∨ SqT K H p xs) ∧ flatV x = true ∧ xs.all flatV = true ∧ inV x xs = b := by
  unfold memD at h
  cases e1 : flt d with
  | none => rw [e1] at h; cases h
  | some v =>
    cases e2 : items e with
    | none => rw [e1, e2] at h; cases h
    | some es =>
      cases e3 : flts es with
      | none =>
        rw [e1, e2] at h
        dsimp only [Option.bind] at h
        rw [e3] at h
        cases h
      | some vs =>
        rw [e1, e2] at h
        dsimp only [Option.bind] at h
        rw [e3] at h
        cases h
        obtain ⟨p, xs, h1, h2, h3⟩ := rX.items o ry e2
        have hx := rX.flt rx e1
        have hv := h2.flts e3
        subst hx
        subst hv
        refine ⟨p, xs, h1, ?_, flt_flat e1, flts_flat e3, rfl⟩
        exact h3.imp (fun h => sq_l h.2) fun h => sq_t h.2
theorem o2_in {K : PySem.W.Frag} : Op2 J ρ (rIn K false) oIn := fun σ G s H L x y d e z o rx ry hz Q q => by
  unfold oIn at hz
  cases h : memD d e with
  | none => rw [h] at hz; cases hz
  | some b =>
    rw [h] at hz
    cases hz
    obtain ⟨p, xs, h1, h2, h3, h4, h5⟩ := memD_in (K := K) o rx ry h
    refine ⟨p, xs, h1, h2, h3, h4, ?_⟩
    rw [h5]
    exact q _ G H (Same.refl _) o (.bl _)
theorem o2_nin {K : PySem.W.Frag} : Op2 J ρ (rIn K true) oNin := fun σ G s H L x y d e z o rx ry hz Q q => by
  unfold oNin at hz
  cases h : memD d e with
  | none => rw [h] at hz; cases hz
  | some b =>
    rw [h] at hz
    cases hz
    obtain ⟨p, xs, h1, h2, h3, h4, h5⟩ := memD_in (K := K) o rx ry h
    refine ⟨p, xs, h1, h2, h3, h4, ?_⟩
    rw [h5]
    exact q _ G H (Same.refl _) o (.bl _)
theorem atI_rp {Z : Wo} {xs : List V} {ds : List D} {i : Int} {d : D} (r : RpAll Z G xs ds) (h : atI ds i = some d) : ∃ v, atI xs i = some v ∧ Rp Z G v d := by
  unfold atI at h ⊢
  rw [r.length]
  cases e : ixN ds.length i with
  | none => rw [e] at h; cases h
  | some j =>
    rw [e] at h
    exact r.get h
theorem o2_ix {K : PySem.W.Frag} : Op2 J ρ (rIx K) oIx := fun σ G s H L x y d e z o rx ry hz Q q => by
  cases e with
  | int i =>
    cases d with
    | lst ds =>
      obtain ⟨a, xs, h1, h2, h3⟩ := rX.lst o rx
      obtain ⟨v, h4, h5⟩ := atI_rp h3 hz
      exact .inl ⟨a, xs, i, v, h1, rX.int ry, sq_l h2, h4, q _ G H (Same.refl _) o h5⟩
    | tup ds =>
      obtain ⟨a, xs, h1, h2, h3⟩ := rX.tup o rx
      obtain ⟨v, h4, h5⟩ := atI_rp h3 hz
      exact .inr (.inl ⟨a, xs, i, v, h1, rX.int ry, sq_t h2, h4, q _ G H (Same.refl _) o h5⟩)
    | str w =>
      unfold oIx at hz
      dsimp only at hz
      split at hz
      · rename_i hl
        cases e1 : atI w.cps.toList i with
        | none => rw [e1] at hz; cases hz
        | some c =>
          rw [e1] at hz
          cases hz
          exact .inr (.inr ⟨w, i, c, rX.str rx, rX.int ry, long_ok hl, e1, q _ G H (Same.refl _) o (.str _)⟩)
      · cases hz
    | _ => cases hz
  | _ => cases d <;> cases hz
end
end Dm

set_option Elab.async false
set_option linter.all false
set_option maxRecDepth 100000
namespace Dm
open PySem PySem.Spec PyProof.Rows L2

section
variable {S : Type} {J : Jc S} {α β γ δ : Type} {ρ : Env} {σ : Sl} {G G' H : Hp} {B L : Led}

/-! ### tests -/
theorem et_of {t : TT} {te : TE} {f : D → Option Bool} {m : MS S D} (ht : t = fun σ H Q => te σ H fun x H1 => ∃ k, x = .bl k ∧ Q k H1) (hf : ∀ d b, f d = some b → d = .bl b) (h : EvX J te ρ m) : EvT J t ρ (bnd m fun d => lft (f d)) := fun σ G s H L o Q q => by
  subst ht
  refine h.run o q fun d x G1 s1 H1 e1 o1 rx q1 => Pst.lft q1 fun b hb q2 => ?_
  rw [hf d b hb] at rx
  exact ⟨b, rX.bl rx, q2 b G1 H1 (Same.refl _) o1 rfl⟩
theorem asB_eq : ∀ d b, asB d = some b → d = .bl b := fun d b h => by
  cases d with
  | bl c => cases h; rfl
  | _ => cases h
theorem et_B {te : TE} {m : MS S D} (h : Ev J te ρ m) : EvT J (tB te) ρ (bnd m fun d => lft (asB d)) := et_of rfl asB_eq h.x
theorem et_test {te : TE} {m : MS S D} (h : Ev J te ρ m) : EvT J (tTest te) ρ (bnd m fun d => lft (asB d)) := et_of rfl asB_eq h.x
theorem tru_ok {K : PySem.W.Frag} {x : V} {d : D} {b : Bool} (o : Ok J.Z B ρ G σ L H) (rx : rX J ρ σ G x d) (h : tru d = some b) : TruV K x H b := by
  cases d with
  | non => cases h; rw [rX.non rx]; rfl
  | bl c => cases h; rw [rX.bl rx]; rfl
  | int c => cases h; rw [rX.int rx]; rfl
  | str c =>
    unfold tru at h
    dsimp only at h
    split at h
    · rename_i hl
      cases h
      rw [rX.str rx]
      exact ⟨long_ok hl, rfl⟩
    · cases h
  | lst ds =>
    cases h
    obtain ⟨a, xs, rfl, h1, r⟩ := rX.lst o rx
    exact .inl ⟨xs, sq_l h1, by cases r <;> rfl⟩
  | tup ds =>
    cases h
    obtain ⟨a, xs, rfl, h1, r⟩ := rX.tup o rx
    exact .inr (.inl ⟨xs, sq_t h1, by cases r <;> rfl⟩)
  | dct kvs =>
    cases h
    obtain ⟨a, rfl, h1⟩ := rX.dct o rx
    exact .inr (.inr ⟨kvs, h1, rfl⟩)
  | obj c fs => cases h
theorem et_tru {K : PySem.W.Frag} {te : TE} {m : MS S D} (h : EvX J te ρ m) : EvT J (fun σ H Q => te σ H fun x H1 => ∃ k, TruV K x H1 k ∧ Q k H1) ρ (bnd m fun d => lft (tru d)) := fun σ G s H L o Q q =>
  h.run o q fun d x G1 s1 H1 e1 o1 rx q1 => Pst.lft q1 fun b hb q2 => ⟨b, tru_ok o1 rx hb, q2 b G1 H1 (Same.refl _) o1 rfl⟩
theorem et_and {t u : TT} {m n : MS S Bool} (h1 : EvT J t ρ m) (h2 : EvT J u ρ n) : EvT J (tAnd t u) ρ (bnd m fun b => if b = true then n else ret false) := fun σ G s H L o Q q =>
  h1.run o q fun b c G1 s1 H1 e1 o1 hc q1 => by
    cases hc
    cases b with
    | true => exact h2 σ G1 s1 H1 L o1 Q q1
    | false => exact q1 false G1 H1 (Same.refl _) o1 rfl
theorem et_or {t u : TT} {m n : MS S Bool} (h1 : EvT J t ρ m) (h2 : EvT J u ρ n) : EvT J (tOr t u) ρ (bnd m fun b => if b = true then ret true else n) := fun σ G s H L o Q q =>
  h1.run o q fun b c G1 s1 H1 e1 o1 hc q1 => by
    cases hc
    cases b with
    | true => exact q1 true G1 H1 (Same.refl _) o1 rfl
    | false => exact h2 σ G1 s1 H1 L o1 Q q1
theorem et_not {t : TT} {m : MS S Bool} (h1 : EvT J t ρ m) : EvT J (tNot t) ρ (bnd m fun b => ret (!b)) := fun σ G s H L o Q q =>
  h1.run o q fun b c G1 s1 H1 e1 o1 hc q1 => by
    cases hc
    exact q1 (!b) G1 H1 (Same.refl _) o1 rfl

/-! ### values by tests -/
theorem ev_ifE {tt : TT} {ta tb : TE} {mt : MS S Bool} {ma mb : MS S D} (h : EvT J tt ρ mt) (h1 : Ev J ta ρ ma) (h2 : Ev J tb ρ mb) : Ev J (tIf tt ta tb) ρ (bnd mt fun b => if b = true then ma else mb) := fun σ G s H L o Q q =>
  h.run o q fun b c G1 s1 H1 e1 o1 hc q1 => by
    cases hc
    cases b with
    | true => exact h1 σ G1 s1 H1 L o1 Q q1
    | false => exact h2 σ G1 s1 H1 L o1 Q q1
theorem ev_andV {ta tb : TE} {ma mb : MS S D} (h1 : Ev J ta ρ ma) (h2 : Ev J tb ρ mb) : Ev J (tAndV ta tb) ρ (bnd ma fun d => bnd (lft (asB d)) fun b => if b = true then mb else ret (.bl false)) := fun σ G s H L o Q q =>
  h1.run o q fun d x G1 s1 H1 e1 o1 rx q1 => by
    cases e : asB d with
    | none =>
      rw [e] at q1
      exact q1.elim
    | some b =>
      rw [e] at q1
      rw [asB_eq d b e] at rx
      refine ⟨b, rX.bl (J := J) (ρ := ρ) (σ := σ) (.inl rx), ?_⟩
      cases b with
      | true => exact h2 σ G1 s1 H1 L o1 Q q1
      | false => exact q1 _ G1 H1 (Same.refl _) o1 (.bl _)
theorem ev_orV {ta tb : TE} {ma mb : MS S D} (h1 : Ev J ta ρ ma) (h2 : Ev J tb ρ mb) : Ev J (tOrV ta tb) ρ (bnd ma fun d => bnd (lft (asB d)) fun b => if b = true then ret (.bl true) else mb) := fun σ G s H L o Q q =>
  h1.run o q fun d x G1 s1 H1 e1 o1 rx q1 => by
    cases e : asB d with
    | none =>
      rw [e] at q1
      exact q1.elim
    | some b =>
      rw [e] at q1
      rw [asB_eq d b e] at rx
      refine ⟨b, rX.bl (J := J) (ρ := ρ) (σ := σ) (.inl rx), ?_⟩
      cases b with
      | true => exact q1 _ G1 H1 (Same.refl _) o1 (.bl _)
      | false => exact h2 σ G1 s1 H1 L o1 Q q1
theorem ev_notV {ta : TE} {ma : MS S D} (h1 : Ev J ta ρ ma) : Ev J (tNotV ta) ρ (bnd ma fun d => bnd (lft (asB d)) fun b => ret (.bl (!b))) := fun σ G s H L o Q q =>
  h1.run o q fun d x G1 s1 H1 e1 o1 rx q1 => by
    cases e : asB d with
    | none =>
      rw [e] at q1
      exact q1.elim
    | some b =>
      rw [e] at q1
      rw [asB_eq d b e] at rx
      exact ⟨b, rX.bl (J := J) (ρ := ρ) (σ := σ) (.inl rx), q1 _ G1 H1 (Same.refl _) o1 (.bl _)⟩
/-- a < b < c -/
theorem ev_chain {r r' : R2} {ta tb tc : TE} {f f' : D → D → Option D} {ma mb mc : MS S D} (ho : Op2 J ρ r f) (ho' : Op2 J ρ r' f') (ha : Ev J ta ρ ma) (hb : Ev J tb ρ mb) (hc : Ev J tc ρ mc) :
    Ev J (tChain r r' ta tb tc) ρ (bnd ma fun d => bnd mb fun e => bnd (lft ((f d e).bind asB)) fun k => if k = true then bnd mc fun g => lft (f' e g) else ret (.bl false)) := fun σ G s H L o Q q =>
  ha.run o q fun d x G1 s1 H1 e1 o1 rx q1 => hb.run o1 q1 fun e y G2 s2 H2 e2 o2 ry q2 => by
    cases e3 : f d e with
    | none =>
      rw [e3] at q2
      exact q2.elim
    | some z =>
      rw [e3] at q2
      refine ho σ G2 s2 H2 L x y d e z o2 (.inl (Rp.mono e2 rx)) (.inl ry) e3 _ fun v G3 H3 e4 o3 rv => ?_
      cases e5 : asB z with
      | none =>
        dsimp only [Option.bind] at q2
        rw [e5] at q2
        exact q2.elim
      | some k =>
        dsimp only [Option.bind] at q2
        rw [e5] at q2
        rw [asB_eq z k e5] at rv
        refine ⟨k, rX.bl (J := J) (ρ := ρ) (σ := σ) (.inl rv), ?_⟩
        cases k with
        | false => exact q2 _ G3 H3 e4 o3 (.bl _)
        | true =>
          have q3 : Pst J ρ σ L G2 (rP J) Q (bnd mc (fun g => lft (f' e g)) s2) := q2
          exact hc.run o3 (Pst.mono e4 q3) fun g w G4 s4 H4 e6 o4 rw' q4 => Pst.lft q4 fun z2 hz2 q5 => ho' σ G4 s4 H4 L y w e g z2 o4 (.inl ((Rp.mono e4 ry).mono e6)) (.inl rw') hz2 Q q5

/-! ### lists of values, displays -/
theorem ea_nil : EvA J tNil ρ (ret []) := EvG.pure fun σ G s H L o Q q => q [] G H (Same.refl _) o .nil
theorem ea_cons {te : TE} {tr : TA} {m : MS S D} {n : MS S (List D)} (h : Ev J te ρ m) (hr : EvA J tr ρ n) : EvA J (tCons te tr) ρ (bnd m fun d => bnd n fun ds => ret (d :: ds)) := fun σ G s H L o Q q =>
  h.run o q fun d x G1 s1 H1 e1 o1 rx q1 => hr.run o1 q1 fun ds xs G2 s2 H2 e2 o2 rs q2 => q2 (x :: xs) G2 H2 (Same.refl _) o2 (.cons (Rp.mono e2 rx) rs)
def mkL (ds : List D) : Option (List D) := if ds.length < tooLong then some ds else none
theorem mkL_some {ds es : List D} (h : mkL ds = some es) : es = ds ∧ ds.length < tooLong := by
  unfold mkL at h
  by_cases hl : ds.length < tooLong
  · rw [if_pos hl] at h
    cases h
    exact ⟨rfl, hl⟩
  · rw [if_neg hl] at h
    cases h
theorem ev_tup {ta : TA} {n : MS S (List D)} (h : EvA J ta ρ n) : Ev J (tTup ta) ρ (bnd n fun ds => lft ((mkL ds).map D.tup)) := fun σ G s H L o Q q =>
  h.run o q fun ds xs G1 s1 H1 e1 o1 rs q1 => Pst.lft q1 fun d hd q2 => by
    cases e : mkL ds with
    | none => rw [e] at hd; cases hd
    | some es =>
      rw [e] at hd
      cases hd
      obtain ⟨e', hl⟩ := mkL_some e
      subst e'
      refine ⟨long_ok (by rw [RpAll.length rs]; exact hl), fun p hp => ?_⟩
      obtain ⟨sm, o'⟩ := o1.lay (u := .tup xs) hp
      exact q2 _ _ _ sm o' (.tup upd_same (RpAll.mono sm rs))

/-! ### lists that the def makes: own for now -/
/-- a new list at p, nobody else's -/
def Nw (J : Jc S) (ρ : Env) (G : Hp) (σ : Sl) (L : Led) (s : S) (H : Hp) (p : Addr) (xs : List V) : Prop := Cells J.Z G ρ σ L ∧ Wd G ((p, .lst xs) :: (L ++ J.lay s)) H
def PstL (J : Jc S) (ρ : Env) (σ : Sl) (L : Led) (G : Hp) (Q : VK) : Rs S (List D) → Prop
  | .stuck => False
  | .ex c fs s => Out J ρ σ L G c fs s
  | .ok ds s => ∀ p xs G' H', Same G G' → Nw J ρ G' σ L s H' p xs → RpAll J.Z G' xs ds → Q (.ref p) H'
def EvL (J : Jc S) (te : TE) (ρ : Env) (m : MS S (List D)) : Prop := ∀ σ G s H L, Ok J.Z (J.lay s) ρ G σ L H → ∀ Q, PstL J ρ σ L G Q (m s) → te σ H Q
theorem PstL.mono {Q : VK} (e : Same G G') : ∀ {r : Rs S (List D)}, PstL J ρ σ L G Q r → PstL J ρ σ L G' Q r
  | .stuck, h => h
  | .ex _ _ _, h => Out.mono e h
  | .ok _ _, h => fun p xs G2 H2 a c => h p xs G2 H2 (e.trans a) c
theorem PstL.lft {Q : VK} {o : Option (List D)} {s : S} {P : Prop} (h : PstL J ρ σ L G Q ((lft o : MS S (List D)) s)) (k : ∀ a, o = some a → PstL J ρ σ L G Q (.ok a s) → P) : P := by
  cases o with
  | none => exact h.elim
  | some a => exact k a rfl h
theorem EvG.runL {R1 : Sl → Hp → β → α → Prop} {t : Sl → Hp → (β → Hp → Prop) → Prop} {Q : VK} {m : MS S α} {k : α → MS S (List D)} {s : S} (h1 : EvG J R1 t ρ m) (o : Ok J.Z (J.lay s) ρ G σ L H)
    (h : PstL J ρ σ L G Q (bnd m k s)) {P : β → Hp → Prop} (kk : ∀ a b G' s' H', Same G G' → Ok J.Z (J.lay s') ρ G' σ L H' → R1 σ G' b a → PstL J ρ σ L G' Q (k a s') → P b H') : t σ H P := by
  refine h1 σ G s H L o _ ?_
  have h' : PstL J ρ σ L G Q ((m s).go k) := h
  cases e : m s with
  | stuck =>
    rw [e] at h'
    exact h'
  | ex c fs s' =>
    rw [e] at h'
    exact h'
  | ok a s' =>
    rw [e] at h'
    exact fun b G' H' sm o' r => kk a b G' s' H' sm o' r (PstL.mono sm h')
theorem Ok.nw {p : Addr} {xs : List V} {s : S} (o : Ok J.Z (J.lay s) ρ G σ L H) (h : H p = none) : Nw J ρ G σ L s (upd H p (.lst xs)) p xs := by
  obtain ⟨c, w⟩ := o
  exact ⟨c, w.keep h⟩
theorem Nw.ok {p : Addr} {xs : List V} {s : S} (o : Nw J ρ G σ L s H p xs) : Same G (upd G p (.lst xs)) ∧ Ok J.Z (J.lay s) ρ (upd G p (.lst xs)) σ L H := by
  obtain ⟨c, w⟩ := o
  exact ⟨w.frzS, c.mono w.frzS, w.frz⟩
/-- it stays as it is from now on -/
theorem ev_new {te : TE} {m : MS S (List D)} (h : EvL J te ρ m) : Ev J te ρ (bnd m fun ds => ret (.lst ds)) := fun σ G s H L o Q q => h σ G s H L o Q (by
  have q' : Pst J ρ σ L G (rP J) Q ((m s).go fun ds => ret (.lst ds)) := q
  cases e : m s with
  | stuck =>
    rw [e] at q'
    exact q'
  | ex c fs s' =>
    rw [e] at q'
    exact q'
  | ok ds s' =>
    rw [e] at q'
    intro p xs G' H' sm n r
    obtain ⟨sm2, o2⟩ := n.ok
    exact q' _ _ _ (sm.trans sm2) o2 (.lst upd_same (r.mono sm2)))
theorem el_lst {ta : TA} {n : MS S (List D)} (h : EvA J ta ρ n) : EvL J (tLst ta) ρ (bnd n fun ds => lft (mkL ds)) := fun σ G s H L o Q q =>
  h.runL o q fun ds xs G1 s1 H1 e1 o1 rs q1 => PstL.lft q1 fun es e q2 => by
    obtain ⟨e', hl⟩ := mkL_some e
    subst e'
    exact ⟨long_ok (by rw [RpAll.length rs]; exact hl), fun p hp => q2 _ _ _ _ (Same.refl _) (o1.nw hp) rs⟩

/-! ### slices -/
def rSl (K : PySem.W.Frag) : V → Option Int → Option Int → Hp → VK → Prop := fun x lo hi H Q => (rSlL K x lo hi H Q ∨ rSlA K x lo hi H Q) ∨ rSlS x lo hi H Q
theorem sl_any {X : Cx} : SlR X (rSl X.K) := SlR.or (SlR.or sl_list sl_tupA) sl_str
theorem eo_none : EvO J tNoPart ρ (ret none) := EvG.pure fun σ G s H L o Q q => q none G H (Same.refl _) o rfl
theorem eo_some {te : TE} {m : MS S D} (h : Ev J te ρ m) : EvO J (tPart te) ρ (bnd m fun d => lft (oInt? d)) := fun σ G s H L o Q q =>
  h.run o q fun d x G1 s1 H1 e1 o1 rx q1 => Pst.lft q1 fun b hb q2 => by
    cases d with
    | int i =>
      cases hb
      exact ⟨i, rX.int (J := J) (ρ := ρ) (σ := σ) (.inl rx), q2 _ G1 H1 (Same.refl _) o1 rfl⟩
    | _ => cases hb
theorem cut_rp {Z : Wo} {xs : List V} {ds : List D} {lo hi : Option Int} (r : RpAll Z G xs ds) : RpAll Z G (cutV xs lo hi) (cut ds lo hi) := by
  unfold cutV cut
  rw [r.length]
  exact (r.drop _).take _
theorem cut_all {α : Type} {xs : List α} {lo hi : Option Int} (h : HT.sIx xs.length 0 lo = 0 ∧ HT.sIx xs.length xs.length hi = xs.length) : cut xs lo hi = xs := by
  unfold cut
  rw [h.1, h.2, List.drop_zero, Nat.sub_zero, List.take_length]
theorem ev_sl {K : PySem.W.Frag} {te : TE} {tl th : TO} {m : MS S D} {ml mh : MS S (Option Int)} (h : EvX J te ρ m) (hl : EvO J tl ρ ml) (hh : EvO J th ρ mh) : Ev J (tSl (rSl K) te tl th) ρ (bnd m fun d => bnd ml fun lo => bnd mh fun hi => lft (oSl d lo hi)) := fun σ G s H L o Q q =>
  h.run o q fun d x G1 s1 H1 e1 o1 rx q1 => hl.run o1 q1 fun lo l' G2 s2 H2 e2 o2 rl q2 => hh.run o2 q2 fun hi h' G3 s3 H3 e3 o3 rh q3 => Pst.lft q3 fun z hz q4 => by
    cases rl
    cases rh
    have rx3 : rX J ρ σ G3 x d := (rX.mono e3 (rX.mono e2 rx))
    cases d with
    | lst ds =>
      cases hz
      obtain ⟨a, xs, h1, h2, r⟩ := rX.lst o3 rx3
      refine .inl (.inl ⟨a, xs, h1, sq_l h2, fun p hp => ?_⟩)
      obtain ⟨sm, o'⟩ := o3.lay (u := .lst (cutV xs lo hi)) hp
      exact q4 _ _ _ sm o' (.lst upd_same ((cut_rp r).mono sm))
    | tup ds =>
      cases hz
      have rp : Rp J.Z G3 x (.tup ds) := by
        rcases rx3 with h | ⟨_, _, _, _, h3⟩
        · exact h
        · cases h3
      obtain ⟨a, xs, rfl, h1, r⟩ := rp_ref rp
      refine .inl (.inr ⟨a, xs, rfl, sq_t (o3.same _ _ h1), fun w => ?_, fun _ p hp => ?_⟩)
      · rw [r.length] at w
        rw [cut_all w] at q4
        exact q4 _ G3 H3 (Same.refl _) o3 rp
      · obtain ⟨sm, o'⟩ := o3.lay (u := .tup (cutV xs lo hi)) hp
        exact q4 _ _ _ sm o' (.tup upd_same ((cut_rp r).mono sm))
    | str w =>
      unfold oSl at hz
      dsimp only at hz
      split at hz
      · rename_i hlen
        cases hz
        exact .inr ⟨w, rX.str rx3, long_ok hlen, q4 _ G3 H3 (Same.refl _) o3 (.str _)⟩
      · cases hz
    | _ => cases hz

/-! ### built-ins by name -/
/-- c reads the one value -/
def Op1 (J : Jc S) (ρ : Env) (r : List V → Hp → VK → Prop) (f : D → Option D) : Prop := ∀ σ G s H L x d z, Ok J.Z (J.lay s) ρ G σ L H → rX J ρ σ G x d → f d = some z →
  ∀ Q : VK, (∀ v G' H', Same G G' → Ok J.Z (J.lay s) ρ G' σ L H' → Rp J.Z G' v z → Q v H') → r [x] H Q
theorem ev_b1 {r : List V → Hp → VK → Prop} {te : TE} {f : D → Option D} {m : MS S D} (ho : Op1 J ρ r f) (h : EvX J te ρ m) : Ev J (tCB r (tCons te tNil)) ρ (bnd m fun d => lft (f d)) := fun σ G s H L o Q q =>
  h.run o q fun d x G1 s1 H1 e1 o1 rx q1 => Pst.lft q1 fun z hz q2 => ho σ G1 s1 H1 L x d z o1 rx hz Q q2
def Op2c (J : Jc S) (ρ : Env) (r : List V → Hp → VK → Prop) (f : D → D → Option D) : Prop := Op2 J ρ (fun x y H Q => r [x, y] H Q) f
theorem ev_b2 {r : List V → Hp → VK → Prop} {ta tb : TE} {f : D → D → Option D} {ma mb : MS S D} (ho : Op2c J ρ r f) (ha : EvX J ta ρ ma) (hb : EvX J tb ρ mb) : Ev J (tCB r (tCons ta (tCons tb tNil))) ρ (bnd ma fun d => bnd mb fun e => lft (f d e)) := fun σ G s H L o Q q =>
  ha.run o q fun d x G1 s1 H1 e1 o1 rx h1 => hb.run o1 h1 fun e y G2 s2 H2 e2 o2 ry h2 => Pst.lft h2 fun z hz q => ho σ G2 s2 H2 L x y d e z o2 (rX.mono e2 rx) ry hz Q q
def rLn (K : PySem.W.Frag) : List V → Hp → VK → Prop := fun xs H Q => (∃ x n, xs = [x] ∧ LenV K x H n ∧ Q (.int n) H) ∨ ∃ a kvs, xs = [V.ref a] ∧ H a = some (.dK kvs) ∧ Q (.int kvs.length) H
theorem call_ln {X : Cx} : CallR X (.builtin "len") (rLn X.K) := CallR.either call_len call_lenD
theorem o1_len {K : PySem.W.Frag} : Op1 J ρ (rLn K) oLen := fun σ G s H L x d z o rx hz Q q => by
  cases d with
  | lst ds =>
    cases hz
    obtain ⟨a, xs, h1, h2, r⟩ := rX.lst o rx
    refine .inl ⟨x, xs.length, rfl, ?_, ?_⟩
    · rw [h1]
      exact .inl ⟨xs, sq_l h2, rfl⟩
    · rw [r.length]
      exact q _ G H (Same.refl _) o (.int _)
  | tup ds =>
    cases hz
    obtain ⟨a, xs, h1, h2, r⟩ := rX.tup o rx
    refine .inl ⟨x, xs.length, rfl, ?_, ?_⟩
    · rw [h1]
      exact .inr ⟨xs, sq_t h2, rfl⟩
    · rw [r.length]
      exact q _ G H (Same.refl _) o (.int _)
  | str w =>
    unfold oLen at hz
    dsimp only at hz
    split at hz
    · rename_i hl
      cases hz
      exact .inl ⟨x, w.length, rfl, by rw [rX.str rx]; exact ⟨long_ok hl, rfl⟩, q _ G H (Same.refl _) o (.int _)⟩
    · cases hz
  | dct kvs =>
    cases hz
    obtain ⟨a, h1, h2⟩ := rX.dct o rx
    exact .inr ⟨a, kvs, by rw [h1], h2, q _ G H (Same.refl _) o (.int _)⟩
  | _ => cases hz
theorem o1_abs : Op1 J ρ (fun xs H Q => ∃ i, xs = [.int i] ∧ Q (.int (if i < 0 then -i else i)) H) oAbs := fun σ G s H L x d z o rx hz Q q => by
  cases d with
  | int i =>
    cases hz
    exact ⟨i, by rw [rX.int rx], q _ G H (Same.refl _) o (.int _)⟩
  | _ => cases hz
theorem o1_int : Op1 J ρ (fun xs H Q => (∃ i, xs = [.int i] ∧ Q (.int i) H) ∨ ∃ k, xs = [.bl k] ∧ Q (.int (if k then 1 else 0)) H) oIntOf := fun σ G s H L x d z o rx hz Q q => by
  cases d with
  | int i =>
    cases hz
    exact .inl ⟨i, by rw [rX.int rx], q _ G H (Same.refl _) o (.int _)⟩
  | bl k =>
    cases hz
    exact .inr ⟨k, by rw [rX.bl rx], q _ G H (Same.refl _) o (.int _)⟩
  | _ => cases hz
theorem o2_max : Op2c J ρ (fun xs H Q => ∃ i j, xs = [.int i, .int j] ∧ Q (.int (if j > i then j else i)) H) oMax2 := fun σ G s H L x y d e z o rx ry hz Q q => by
  cases d with
  | int i =>
    cases e with
    | int j =>
      cases hz
      exact ⟨i, j, by rw [rX.int rx, rX.int ry], q _ G H (Same.refl _) o (.int _)⟩
    | _ => cases hz
  | _ => cases hz
theorem o2_min : Op2c J ρ (fun xs H Q => ∃ i j, xs = [.int i, .int j] ∧ Q (.int (if j < i then j else i)) H) oMin2 := fun σ G s H L x y d e z o rx ry hz Q q => by
  cases d with
  | int i =>
    cases e with
    | int j =>
      cases hz
      exact ⟨i, j, by rw [rX.int rx, rX.int ry], q _ G H (Same.refl _) o (.int _)⟩
    | _ => cases hz
  | _ => cases hz
def rTp (K : PySem.W.Frag) : List V → Hp → VK → Prop := fun xs H Q => ∃ p ys, xs = [.ref p] ∧ ((SqL K H p ys ∧ ∀ l, H l = none → Q (.ref l) (upd H l (.tup ys))) ∨ (SqT K H p ys ∧ Q (.ref p) H))
theorem o1_tuple {K : PySem.W.Frag} : Op1 J ρ (rTp K) oTuple := fun σ G s H L x d z o rx hz Q q => by
  cases d with
  | lst ds =>
    cases hz
    obtain ⟨a, xs, h1, h2, r⟩ := rX.lst o rx
    refine ⟨a, xs, by rw [h1], .inl ⟨sq_l h2, fun l hl => ?_⟩⟩
    obtain ⟨sm, o'⟩ := o.lay (u := .tup xs) hl
    exact q _ _ _ sm o' (.tup upd_same (r.mono sm))
  | tup ds =>
    cases hz
    have rp : Rp J.Z G x (.tup ds) := by
      rcases rx with h | ⟨_, _, _, _, h3⟩
      · exact h
      · cases h3
    obtain ⟨a, xs, rfl, h1, r⟩ := rp_ref rp
    exact ⟨a, xs, rfl, .inr ⟨sq_t (o.same _ _ h1), q _ G H (Same.refl _) o rp⟩⟩
  | _ => cases hz
def rLs (K : PySem.W.Frag) : List V → Hp → VK → Prop := fun xs H Q => ∃ p ys, xs = [.ref p] ∧ (SqL K H p ys ∨ SqT K H p ys) ∧ ∀ l, H l = none → Q (.ref l) (upd H l (.lst ys))
/-- list(x) -/
theorem el_list {K : PySem.W.Frag} {te : TE} {m : MS S D} (h : EvX J te ρ m) : EvL J (tCB (rLs K) (tCons te tNil)) ρ (bnd m fun d => lft (items d)) := fun σ G s H L o Q q =>
  h.runL o q fun d x G1 s1 H1 e1 o1 rx q1 => PstL.lft q1 fun ds e q2 => by
    obtain ⟨p, xs, h1, r, h2⟩ := rX.items o1 rx e
    exact ⟨p, xs, by rw [h1], h2.imp (fun h => sq_l h.2) (fun h => sq_t h.2), fun l hl => q2 _ _ _ _ (Same.refl _) (o1.nw hl) r⟩

/-! ### isinstance -/
def tyN : D → String
  | .non => "NoneType" | .bl _ => "bool" | .int _ => "int" | .str _ => "str" | .lst _ => "list" | .tup _ => "tuple" | .dct _ => "dict" | .obj _ _ => ""
inductive Ty6 where
  | int | bool | str | list | tuple | dict
def Ty6.nm : Ty6 → String
  | .int => "int" | .bool => "bool" | .str => "str" | .list => "list" | .tuple => "tuple" | .dict => "dict"
def isA : Ty6 → D → Option Bool
  | _, .obj _ _ => none
  | .int, .int _ => some true
  | .int, .bl _ => some true
  | .bool, .bl _ => some true
  | .str, .str _ => some true
  | .list, .lst _ => some true
  | .tuple, .tup _ => some true
  | .dict, .dct _ => some true
  | _, _ => some false
def isAs : List Ty6 → D → Option Bool
  | [], .obj _ _ => none
  | [], _ => some false
  | T :: Ts, d => match isA T d with
    | some true => some true
    | some false => isAs Ts d
    | none => none
def oIsA (T : Ty6) (d : D) : Option D := (isA T d).map D.bl
def oIsAs (Ts : List Ty6) (d : D) : Option D := (isAs Ts d).map D.bl
theorem ty_of {K : PySem.W.Frag} {x : V} {d : D} {T : Ty6} {b : Bool} (o : Ok J.Z B ρ G σ L H) (rx : rX J ρ σ G x d) (h : isA T d = some b) : TyX K H x (.type (tyN d)) := by
  cases d with
  | non => rw [rX.non rx]; exact .base .non
  | bl c => rw [rX.bl rx]; exact .base (.bl _)
  | int c => rw [rX.int rx]; exact .base (.int _)
  | str c => rw [rX.str rx]; exact .base (.str _)
  | lst ds =>
    obtain ⟨a, xs, rfl, h1, _⟩ := rX.lst o rx
    exact .base (.lst h1)
  | tup ds =>
    obtain ⟨a, xs, rfl, h1, _⟩ := rX.tup o rx
    exact .base (.tup h1)
  | dct kvs =>
    obtain ⟨a, rfl, h1⟩ := rX.dct o rx
    exact .base (.dK h1)
  | obj c fs => cases T <;> cases h
theorem kit_is {K : PySem.W.Frag} {d : D} {T : Ty6} {b : Bool} (h : isA T d = some b) : PySem.W.kitOne K (.type (tyN d)) (.type T.nm) = some b := by
  cases d <;> cases T <;> cases h <;> rfl
theorem kit_all {K : PySem.W.Frag} {d : D} : ∀ {Ts : List Ty6} {b : Bool}, isAs Ts d = some b → PySem.W.kitAny K (.type (tyN d)) (Ts.map fun T => .type T.nm) = some b
  | [], b, h => by
    cases d <;> cases h <;> rfl
  | T :: Ts, b, h => by
    unfold isAs at h
    cases e : isA T d with
    | none =>
      rw [e] at h
      cases h
    | some c =>
      have k := kit_is (K := K) e
      rw [e] at h
      show (match PySem.W.kitOne K (.type (tyN d)) (.type T.nm) with
        | some true => some true
        | some false => PySem.W.kitAny K (.type (tyN d)) (Ts.map fun T => .type T.nm)
        | none => none) = some b
      rw [k]
      cases c with
      | true => exact h
      | false => exact kit_all h
theorem ev_isa {K : PySem.W.Frag} {te : TE} {m : MS S D} (T : Ty6) (h : EvX J te ρ m) : Ev J (tCB (rIsi K) (tCons te (tCons (tC (.ty T.nm)) tNil))) ρ (bnd m fun d => lft (oIsA T d)) := fun σ G s H L o Q q =>
  h.run o q fun d x G1 s1 H1 e1 o1 rx q1 => Pst.lft q1 fun z hz q2 => by
    unfold oIsA at hz
    cases e : isA T d with
    | none => rw [e] at hz; cases hz
    | some b =>
      rw [e] at hz
      cases hz
      exact ⟨x, _, _, _, b, rfl, .ty _, ty_of o1 rx e, kit_is e, q2 _ G1 H1 (Same.refl _) o1 (.bl _)⟩
def tTys : List Ty6 → TA
  | [] => tNil
  | T :: Ts => tCons (tC (.ty T.nm)) (tTys Ts)
theorem tTys_run : ∀ {Ts : List Ty6} {Q : List V → Hp → Prop}, Q (Ts.map fun T => .ty T.nm) H → tTys Ts σ H Q
  | [], _, h => h
  | T :: Ts, Q, h => tTys_run (Ts := Ts) (Q := fun xs H2 => Q (.ty T.nm :: xs) H2) h
theorem tys_cls : ∀ Ts : List Ty6, Paired ClsV (Ts.map fun T => V.ty T.nm) (Ts.map fun T => Value.type T.nm)
  | [] => .nil
  | _ :: Ts => .cons (.ty _) (tys_cls Ts)
theorem isAs_one {d : D} : ∀ {Ts : List Ty6} {b : Bool}, isAs Ts d = some b → isA .int d ≠ none
  | [], _, h => by
    cases d <;> first | (cases h; done) | (intro q; cases q)
  | T :: Ts, b, h => by
    cases d with
    | obj c fs => cases T <;> cases h
    | _ => intro q; cases q
theorem ev_isas {K : PySem.W.Frag} {te : TE} {m : MS S D} (Ts : List Ty6) (h : EvX J te ρ m) (hl : Ts.length < 10 := by decide) : Ev J (tCB (rIsiT K) (tCons te (tCons (tTup (tTys Ts)) tNil))) ρ (bnd m fun d => lft (oIsAs Ts d)) := fun σ G s H L o Q q =>
  h.run o q fun d x G1 s1 H1 e1 o1 rx q1 => Pst.lft q1 fun z hz q2 => by
    unfold oIsAs at hz
    cases e : isAs Ts d with
    | none => rw [e] at hz; cases hz
    | some b =>
      rw [e] at hz
      cases hz
      show tTys Ts σ H1 _
      refine tTys_run ?_
      refine ⟨long_ok (by rw [List.length_map]; exact Nat.lt_trans hl (by decide)), fun p hp => ?_⟩
      obtain ⟨sm, o'⟩ := o1.lay (u := .tup (Ts.map fun T => V.ty T.nm)) hp
      obtain ⟨c, hc⟩ := Option.ne_none_iff_exists'.mp (isAs_one e)
      exact ⟨x, p, _, _, _, b, rfl, upd_same, tys_cls Ts, ty_of o' (rX.mono sm rx) hc, kit_all e, q2 _ _ _ sm o' (.bl _)⟩
end
end Dm

set_option Elab.async false
set_option linter.all false
set_option maxRecDepth 100000
namespace Dm
open PySem PySem.Spec PyProof.Rows L2

/-! ### statements -/
/-- how a block ends -/
inductive Fin where
  | nx (ρ : Env) | rt (d : D) | bk (ρ : Env) | ct (ρ : Env)
section
variable {S : Type} (J : Jc S)
def Fo (G : Hp) (E : Ends) (s : S) : Fin → Prop
  | .nx ρ => ∀ σ G' H L, Same G G' → Ok J.Z (J.lay s) ρ G' σ L H → E.nx σ H
  | .rt d => ∀ v G' H, Same G G' → Wd G' (J.lay s) H → Rp J.Z G' v d → E.rt v H
  | .bk ρ => ∀ σ G' H L, Same G G' → Ok J.Z (J.lay s) ρ G' σ L H → E.bk σ H
  | .ct ρ => ∀ σ G' H L, Same G G' → Ok J.Z (J.lay s) ρ G' σ L H → E.ct σ H
def Xo (esc : Env) (G : Hp) (c : Nat) (fs : List D) (s : S) : Prop := ∀ σ dx vs G' H L, Same G G' → Ok J.Z (J.lay s) esc G' σ L H → G' dx = some (.xd ((J.Z.fn c).zip vs)) → (J.Z.fn c).length = vs.length → RpAll J.Z G' vs fs → J.X (.ref (J.Z.cl c)) (some dx) σ H
def Pss {β : Type} (esc : Env) (G : Hp) (E : Ends) (fin : β → Fin) : Rs S β → Prop
  | .stuck => False
  | .ex c fs s => Xo J esc G c fs s
  | .ok b s => Fo J G E s (fin b)
/-- the statement t does what m says; T: what is asked of the ways out -/
def Sv {β : Type} (T : Ends → Prop) (esc : Env) (t : TS) (ρ : Env) (m : MS S β) (fin : β → Fin) : Prop := ∀ σ G s H L, Ok J.Z (J.lay s) ρ G σ L H → ∀ E, T E → Pss J esc G E fin (m s) → t E σ H
end
/-- anywhere; at a def's end (where falling off is to hand back None) -/
def Ta (_ : Ends) : Prop := True
def Tl (E : Ends) : Prop := ∀ σ H, E.rt .non H → E.nx σ H
section
variable {S : Type} {J : Jc S} {α β γ δ τ : Type} {ρ esc : Env} {σ : Sl} {G G' H : Hp} {L : Led} {T : Ends → Prop} {E : Ends}
theorem Fo.mono {s : S} (e : Same G G') : ∀ {f : Fin}, Fo J G E s f → Fo J G' E s f
  | .nx _, h => fun σ G2 H L a b => h σ G2 H L (e.trans a) b
  | .rt _, h => fun v G2 H a b c => h v G2 H (e.trans a) b c
  | .bk _, h => fun σ G2 H L a b => h σ G2 H L (e.trans a) b
  | .ct _, h => fun σ G2 H L a b => h σ G2 H L (e.trans a) b
theorem Xo.mono {s : S} {c : Nat} {fs : List D} (e : Same G G') (h : Xo J esc G c fs s) : Xo J esc G' c fs s := fun σ dx vs G2 H L a b => h σ dx vs G2 H L (e.trans a) b
theorem Pss.mono {fin : β → Fin} (e : Same G G') : ∀ {r : Rs S β}, Pss J esc G E fin r → Pss J esc G' E fin r
  | .stuck, h => h
  | .ex _ _ _, h => Xo.mono e h
  | .ok _ _, h => Fo.mono e h
theorem Pss.lft {fin : β → Fin} {o : Option β} {s : S} {P : Prop} (h : Pss J esc G E fin ((lft o : MS S β) s)) (k : ∀ a, o = some a → Fo J G E s (fin a) → P) : P := by
  cases o with
  | none => exact h.elim
  | some a => exact k a rfl h
theorem Xo.out {s : S} {c : Nat} {fs : List D} (w : Wk ρ esc) (h : Xo J esc G c fs s) : Out J ρ σ L G c fs s := fun dx vs G' H' sm o e1 e2 r => by
  obtain ⟨L', o'⟩ := o.weak w
  exact h σ dx vs G' H' L' sm o' e1 e2 r
theorem EvG.runS {R1 : Sl → Hp → γ → α → Prop} {t : Sl → Hp → (γ → Hp → Prop) → Prop} {m : MS S α} {k : α → MS S β} {s : S} {fin : β → Fin} (h1 : EvG J R1 t ρ m) (o : Ok J.Z (J.lay s) ρ G σ L H) (w : Wk ρ esc)
    (h : Pss J esc G E fin (bnd m k s)) {P : γ → Hp → Prop} (kk : ∀ a b G' s' H', Same G G' → Ok J.Z (J.lay s') ρ G' σ L H' → R1 σ G' b a → Pss J esc G' E fin (k a s') → P b H') : t σ H P := by
  refine h1 σ G s H L o _ ?_
  have h' : Pss J esc G E fin ((m s).go k) := h
  cases e : m s with
  | stuck =>
    rw [e] at h'
    exact h'
  | ex c fs s' =>
    rw [e] at h'
    exact Xo.out w h'
  | ok a s' =>
    rw [e] at h'
    exact fun b G' H' sm o' r => kk a b G' s' H' sm o' r (Pss.mono sm h')
theorem EvL.runS {t : TE} {m : MS S (List D)} {k : List D → MS S β} {s : S} {fin : β → Fin} (h1 : EvL J t ρ m) (o : Ok J.Z (J.lay s) ρ G σ L H) (w : Wk ρ esc)
    (h : Pss J esc G E fin (bnd m k s)) {P : V → Hp → Prop} (kk : ∀ ds p xs G' s' H', Same G G' → Nw J ρ G' σ L s' H' p xs → RpAll J.Z G' xs ds → Pss J esc G' E fin (k ds s') → P (.ref p) H') : t σ H P := by
  refine h1 σ G s H L o _ ?_
  have h' : Pss J esc G E fin ((m s).go k) := h
  cases e : m s with
  | stuck =>
    rw [e] at h'
    exact h'
  | ex c fs s' =>
    rw [e] at h'
    exact Xo.out w h'
  | ok a s' =>
    rw [e] at h'
    exact fun p xs G' H' sm o' r => kk a p xs G' s' H' sm o' r (Pss.mono sm h')
theorem bnd_id (m : MS S α) : bnd m ret = m := by
  funext s
  show (m s).go ret = m s
  cases m s <;> rfl

/-! one statement -/
theorem sv_asg {te : TE} {i : Nat} {m : MS S D} (h : Ev J te ρ m) (w : Wk ρ esc) : Sv J Ta esc (tAsg te (gName i)) ρ m (fun d => .nx (ρ.set i (.P d))) := fun σ G s H L o E _ q => by
  refine h.runS (k := ret) o w (by rw [bnd_id]; exact q) fun d v G1 s1 H1 e1 o1 r q1 => ?_
  obtain ⟨L', o2⟩ := o1.set (i := i) r
  exact q1 _ G1 H1 L' (Same.refl _) o2
/-- x = [..]: the list is the def's own -/
theorem Cells.setO {Z : Wo} {p : Addr} {xs : List V} {ds : List D} (r : RpAll Z G xs ds) : ∀ {e : Env} {σ : Sl} {L : Led} (i : Nat), Cells Z G e σ L → i < e.length → ∃ L' L1 L2, List.Sublist L' L ∧ L' = L1 ++ L2 ∧ Cells Z G (e.set i (.O ds)) (σ.set i (some (.ref p))) (L1 ++ (p, .lst xs) :: L2)
  | _, _, _, _, .nil, h => absurd h (Nat.not_lt_zero _)
  | _, _, _, 0, .U c, _ => ⟨_, [], _, List.Sublist.refl _, rfl, .O r c⟩
  | _, _, _, 0, .P q c, _ => ⟨_, [], _, List.Sublist.refl _, rfl, .O r c⟩
  | _, _, _, 0, .O q c, _ => ⟨_, [], _, List.sublist_cons_self _ _, rfl, .O r c⟩
  | _, _, _, 0, .A f c, _ => ⟨_, [], _, List.Sublist.refl _, rfl, .O r c⟩
  | _, _, _, i + 1, .U c, h => by
    obtain ⟨L', L1, L2, s, e, c'⟩ := c.setO (p := p) r i (Nat.lt_of_succ_lt_succ h)
    exact ⟨L', L1, L2, s, e, .U c'⟩
  | _, _, _, i + 1, .P q c, h => by
    obtain ⟨L', L1, L2, s, e, c'⟩ := c.setO (p := p) r i (Nat.lt_of_succ_lt_succ h)
    exact ⟨L', L1, L2, s, e, .P q c'⟩
  | _, _, _, i + 1, .O (p := p0) (xs := xs0) q c, h => by
    obtain ⟨L', L1, L2, s, e, c'⟩ := c.setO (p := p) r i (Nat.lt_of_succ_lt_succ h)
    exact ⟨_, (p0, .lst xs0) :: L1, L2, s.cons₂ _, by rw [e]; rfl, .O q c'⟩
  | _, _, _, i + 1, .A f c, h => by
    obtain ⟨L', L1, L2, s, e, c'⟩ := c.setO (p := p) r i (Nat.lt_of_succ_lt_succ h)
    exact ⟨L', L1, L2, s, e, .A f c'⟩
theorem Nw.set {s : S} {p : Addr} {xs : List V} {ds : List D} {i : Nat} (n : Nw J ρ G σ L s H p xs) (r : RpAll J.Z G xs ds) (hi : i < ρ.length) : ∃ L', Ok J.Z (J.lay s) (ρ.set i (.O ds)) G (σ.set i (some (.ref p))) L' H := by
  obtain ⟨c, w⟩ := n
  obtain ⟨L', L1, L2, sb, e, c'⟩ := c.setO (p := p) r i hi
  refine ⟨_, c', ?_⟩
  have w1 := w.sub ((sb.append (List.Sublist.refl (J.lay s))).cons₂ (p, HO.lst xs))
  refine w1.perm ?_
  rw [e, List.append_assoc, List.append_assoc, List.cons_append]
  exact List.perm_middle
theorem sv_asgL {te : TE} {i : Nat} {m : MS S (List D)} (h : EvL J te ρ m) (w : Wk ρ esc) (hi : i < ρ.length := by decide) : Sv J Ta esc (tAsg te (gName i)) ρ m (fun ds => .nx (ρ.set i (.O ds))) := fun σ G s H L o E _ q => by
  refine h.runS (k := ret) o w (by rw [bnd_id]; exact q) fun ds p xs G1 s1 H1 e1 n r q1 => ?_
  obtain ⟨L', o2⟩ := n.set r hi
  exact q1 _ G1 H1 L' (Same.refl _) o2
theorem sv_ret {te : TE} {m : MS S D} (h : Ev J te ρ m) (w : Wk ρ esc) : Sv J T esc (tRet te) ρ m Fin.rt := fun σ G s H L o E _ q =>
  h.runS (k := ret) (fin := Fin.rt) o w (by rw [bnd_id]; exact q) fun d v G1 s1 H1 e1 o1 r q1 => q1 v G1 H1 (Same.refl _) o1.wd r
theorem sv_retN : Sv J T esc tRetN ρ (ret .non) Fin.rt := fun σ G s H L o E _ q => q .non G H (Same.refl _) o.wd .non
theorem sv_drop {te : TE} {m : MS S D} (h : Ev J te ρ m) (w : Wk ρ esc) : Sv J Ta esc (tDrop te) ρ m (fun _ => .nx ρ) := fun σ G s H L o E _ q =>
  h.runS (k := ret) (fin := fun _ => Fin.nx ρ) o w (by rw [bnd_id]; exact q) fun d v G1 s1 H1 e1 o1 r q1 => q1 σ G1 H1 L (Same.refl _) o1
/-- nothing; the end of a def -/
theorem sv_next : Sv J T esc tNext ρ (ret ()) (fun _ => .nx ρ) := fun σ G s H L o E _ q => q σ G H L (Same.refl _) o
theorem sv_end : Sv J Tl esc tNext ρ (ret .non) Fin.rt := fun σ G s H L o E ht q => ht σ H (q .non G H (Same.refl _) o.wd .non)
theorem sv_break : Sv J T esc tBreak ρ (ret ()) (fun _ => .bk ρ) := fun σ G s H L o E _ q => q σ G H L (Same.refl _) o
theorem sv_cont : Sv J T esc tCont ρ (ret ()) (fun _ => .ct ρ) := fun σ G s H L o E _ q => q σ G H L (Same.refl _) o
/-! less is asked -/
def FinW : Fin → Fin → Prop
  | .nx ρ, .nx ρ' => Wk ρ ρ'
  | .rt d, .rt d' => d = d'
  | .bk ρ, .bk ρ' => Wk ρ ρ'
  | .ct ρ, .ct ρ' => Wk ρ ρ'
  | _, _ => False
theorem Fo.weak {s : S} {f f' : Fin} (w : FinW f f') (h : Fo J G E s f') : Fo J G E s f := by
  cases f <;> cases f' <;> first | exact w.elim | skip
  · exact fun σ G2 H L a o => let ⟨L', o'⟩ := o.weak w; h σ G2 H L' a o'
  · cases w
    exact h
  · exact fun σ G2 H L a o => let ⟨L', o'⟩ := o.weak w; h σ G2 H L' a o'
  · exact fun σ G2 H L a o => let ⟨L', o'⟩ := o.weak w; h σ G2 H L' a o'
/-- the ends in other words -/
theorem sv_to {t : TS} {m : MS S α} {fin : α → Fin} {fin' : β → Fin} (g : α → β) (h : Sv J T esc t ρ m fin) (w : ∀ a, FinW (fin a) (fin' (g a))) : Sv J T esc t ρ (bnd m fun a => ret (g a)) fin' := fun σ G s H L o E ht q => h σ G s H L o E ht (by
  have q' : Pss J esc G E fin' ((m s).go fun a => ret (g a)) := q
  cases e : m s with
  | stuck =>
    rw [e] at q'
    exact q'
  | ex c fs s' =>
    rw [e] at q'
    exact q'
  | ok a s' =>
    rw [e] at q'
    exact Fo.weak (w a) q')
theorem sv_wk {t : TS} {m : MS S α} {fin : α → Fin} {ρ' : Env} (w : Wk ρ ρ') (h : Sv J T esc t ρ' m fin) : Sv J T esc t ρ m fin := fun σ G s H L o E ht q => by
  obtain ⟨L', o'⟩ := o.weak w
  exact h σ G s H L' o' E ht q
/-- an own list stays as it is from now on -/
theorem Cells.frz {Z : Wo} {i : Nat} {ds : List D} {p : Addr} {xs : List V} : ∀ {e : Env} {σ : Sl} {L : Led} {i : Nat}, Cells Z G e σ L → e[i]? = some (.O ds) → ∃ (p : Addr) (xs : List V) (L1 L2 : Led), L = L1 ++ (p, .lst xs) :: L2 ∧ RpAll Z G xs ds ∧
      ∀ G', Same G G' → Rp Z G' (.ref p) (.lst ds) → Cells Z G' (e.set i (.P (.lst ds))) σ (L1 ++ L2)
  | _, _, _, _, .nil, h => by simp at h
  | _, _, _, 0, .U c, h => by simp at h
  | _, _, _, 0, .P r c, h => by simp at h
  | _, _, _, 0, .O r c, h => by
    simp at h
    subst h
    exact ⟨_, _, [], _, rfl, r, fun G' s q => .P q (c.mono s)⟩
  | _, _, _, 0, .A f c, h => by simp at h
  | _, _, _, i + 1, .U c, h => by
    obtain ⟨p, xs, L1, L2, a2, a3, a4⟩ := c.frz (i := i) (p := 0) (xs := []) (by simpa using h)
    exact ⟨p, xs, L1, L2, a2, a3, fun G' s q => .U (a4 G' s q)⟩
  | _, _, _, i + 1, .P r c, h => by
    obtain ⟨p, xs, L1, L2, a2, a3, a4⟩ := c.frz (i := i) (p := 0) (xs := []) (by simpa using h)
    exact ⟨p, xs, L1, L2, a2, a3, fun G' s q => .P (r.mono s) (a4 G' s q)⟩
  | _, _, _, i + 1, .O (p := p0) (xs := xs0) r c, h => by
    obtain ⟨p, xs, L1, L2, a2, a3, a4⟩ := c.frz (i := i) (p := 0) (xs := []) (by simpa using h)
    exact ⟨p, xs, (p0, .lst xs0) :: L1, L2, by rw [a2]; rfl, a3, fun G' s q => .O (r.mono s) (a4 G' s q)⟩
  | _, _, _, i + 1, .A f c, h => by
    obtain ⟨p, xs, L1, L2, a2, a3, a4⟩ := c.frz (i := i) (p := 0) (xs := []) (by simpa using h)
    exact ⟨p, xs, L1, L2, a2, a3, fun G' s q => .A (fun G2 s2 => f G2 (s.trans s2)) (a4 G' s q)⟩
theorem Ok.frz {B : Led} {i : Nat} {ds : List D} (o : Ok J.Z B ρ G σ L H) (h : ρ[i]? = some (.O ds)) : ∃ G' L', Same G G' ∧ Ok J.Z B (ρ.set i (.P (.lst ds))) G' σ L' H := by
  obtain ⟨c, w⟩ := o
  obtain ⟨p, xs, L1, L2, e, r, k⟩ := c.frz (i := i) (p := 0) (xs := []) h
  subst e
  have w' : Wd G ((p, .lst xs) :: (L1 ++ L2 ++ B)) H := w.perm (by
    rw [List.append_assoc, List.append_assoc, List.cons_append]
    exact List.perm_middle.symm)
  refine ⟨_, _, w'.frzS, k _ w'.frzS (.lst upd_same (r.mono w'.frzS)), ?_⟩
  exact w'.frz
theorem sv_frz {t : TS} {m : MS S α} {fin : α → Fin} {i : Nat} {ds : List D} (hi : ρ[i]? = some (.O ds)) (h : Sv J T esc t (ρ.set i (.P (.lst ds))) m fin) : Sv J T esc t ρ m fin := fun σ G s H L o E ht q => by
  obtain ⟨G', L', sm, o'⟩ := o.frz hi
  exact h σ G' s H L' o' E ht (Pss.mono sm q)

/-! two statements -/
theorem Pss.bind {m : MS S α} {k : α → MS S β} {fin1 : α → Fin} {fin : β → Fin} {E1 : Ends} {s : S} (h : Pss J esc G E fin (bnd m k s)) (kk : ∀ a s', Pss J esc G E fin (k a s') → Fo J G E1 s' (fin1 a)) : Pss J esc G E1 fin1 (m s) := by
  have h' : Pss J esc G E fin ((m s).go k) := h
  cases e : m s with
  | stuck =>
    rw [e] at h'
    exact h'
  | ex c fs s' =>
    rw [e] at h'
    exact h'
  | ok a s' =>
    rw [e] at h'
    exact kk a s' h'
theorem sv_seq {t u : TS} {m : MS S α} {k : α → MS S β} {e : α → Env} {fin : β → Fin} (h1 : Sv J Ta esc t ρ m (fun a => .nx (e a))) (h2 : ∀ a, Sv J T esc u (e a) (k a) fin) : Sv J T esc (tSeq t u) ρ (bnd m k) fin := fun σ G s H L o E ht q =>
  h1 σ G s H L o { E with nx := u E } trivial (q.bind (E1 := { E with nx := u E }) fun a s' q1 σ1 G1 H1 L1 sm o1 => h2 a σ1 G1 s' H1 L1 o1 E ht (Pss.mono sm q1))
/-- what a statement may do beside: hand back; leave the loop; go on with it -/
inductive Fl (α β : Type) where
  | nx (a : α) | rt (d : D) | bk (b : β) | ct (b : β)
def Fl.fin (e : α → Env) (eb : β → Env) : Fl α β → Fin
  | .nx a => .nx (e a)
  | .rt d => .rt d
  | .bk b => .bk (eb b)
  | .ct b => .ct (eb b)
/-- a block that may also hand back -/
inductive Fr (α : Type) where
  | nx (a : α) | rt (d : D)
def Fr.fin (e : α → Env) : Fr α → Fin
  | .nx a => .nx (e a)
  | .rt d => .rt d
/-- the same, what follows hands back -/
theorem sv_seqR {t u : TS} {m : MS S (Fr α)} {k : α → MS S D} {e : α → Env} (h1 : Sv J Ta esc t ρ m (Fr.fin e)) (h2 : ∀ a, Sv J T esc u (e a) (k a) Fin.rt) : Sv J T esc (tSeq t u) ρ (bnd m fun r => match r with | .nx a => k a | .rt d => ret d) Fin.rt := fun σ G s H L o E ht q =>
  h1 σ G s H L o { E with nx := u E } trivial (q.bind (E1 := { E with nx := u E }) fun a s' q1 => by
    cases a with
    | nx a => exact fun σ1 G1 H1 L1 sm o1 => h2 a σ1 G1 s' H1 L1 o1 E ht (Pss.mono sm q1)
    | rt d => exact q1)
theorem sv_seqF {t u : TS} {m : MS S (Fl α γ)} {k : α → MS S (Fl β γ)} {e : α → Env} {e' : β → Env} {eb : γ → Env} (h1 : Sv J Ta esc t ρ m (Fl.fin e eb)) (h2 : ∀ a, Sv J T esc u (e a) (k a) (Fl.fin e' eb)) :
    Sv J T esc (tSeq t u) ρ (bnd m fun r => match r with | .nx a => k a | .rt d => ret (.rt d) | .bk b => ret (.bk b) | .ct b => ret (.ct b)) (Fl.fin e' eb) := fun σ G s H L o E ht q =>
  h1 σ G s H L o { E with nx := u E } trivial (q.bind (E1 := { E with nx := u E }) fun a s' q1 => by
    cases a with
    | nx a => exact fun σ1 G1 H1 L1 sm o1 => h2 a σ1 G1 s' H1 L1 o1 E ht (Pss.mono sm q1)
    | rt d => exact q1
    | bk d => exact q1
    | ct d => exact q1)
theorem sv_if {tt : TT} {tu tw : TS} {mt : MS S Bool} {m1 m2 : MS S β} {fin : β → Fin} (h : EvT J tt ρ mt) (w : Wk ρ esc) (h1 : Sv J T esc tu ρ m1 fin) (h2 : Sv J T esc tw ρ m2 fin) : Sv J T esc (tIfS tt tu tw) ρ (bnd mt fun b => if b = true then m1 else m2) fin := fun σ G s H L o E ht q =>
  h.runS o w q fun b c G1 s1 H1 e1 o1 hc q1 => by
    cases hc
    cases b with
    | true => exact h1 σ G1 s1 H1 L o1 E ht q1
    | false => exact h2 σ G1 s1 H1 L o1 E ht q1
/-- if: hand back; the rest is the else -/
theorem sv_ifR {tt : TT} {tu tw tz : TS} {mt : MS S Bool} {m1 m2 : MS S D} (h : EvT J tt ρ mt) (w : Wk ρ esc) (h1 : Sv J Ta esc tu ρ m1 Fin.rt) (h2 : Sv J T esc (tSeq tw tz) ρ m2 Fin.rt) : Sv J T esc (tSeq (tIfS tt tu tw) tz) ρ (bnd mt fun b => if b = true then m1 else m2) Fin.rt := fun σ G s H L o E ht q =>
  h.runS o w q fun b c G1 s1 H1 e1 o1 hc q1 => by
    cases hc
    cases b with
    | true => exact h1 σ G1 s1 H1 L o1 { E with nx := tz E } trivial (by
        have q2 : Pss J esc G1 E Fin.rt (m1 s1) := q1
        cases e : m1 s1 with
        | stuck => rw [e] at q2; exact q2
        | ex c fs s' => rw [e] at q2; exact q2
        | ok a s' => rw [e] at q2; exact q2)
    | false => exact h2 σ G1 s1 H1 L o1 E ht q1
/-- tNext ahead is nothing -/
theorem sv_skip {tz : TS} {m : MS S β} {fin : β → Fin} (h : Sv J T esc tz ρ m fin) : Sv J T esc (tSeq tNext tz) ρ m fin := h
end
end Dm

set_option Elab.async false
set_option linter.all false
set_option maxRecDepth 100000
namespace Dm
open PySem PySem.Spec PyProof.Rows L2
section
variable {S : Type} {J : Jc S} {α β γ δ τ : Type} {ρ esc : Env} {σ : Sl} {G G' H : Hp} {L : Led} {T : Ends → Prop} {E : Ends}
/-! ### a block that never goes on -/
inductive Fx (γ : Type) where
  | rt (d : D) | bk (b : γ) | ct (b : γ)
def Fx.fin (eb : γ → Env) : Fx γ → Fin
  | .rt d => .rt d
  | .bk b => .bk (eb b)
  | .ct b => .ct (eb b)
def Fx.up : Fx γ → Fl α γ
  | .rt d => .rt d
  | .bk b => .bk b
  | .ct b => .ct b
theorem sv_ifF {tt : TT} {tu tw tz : TS} {mt : MS S Bool} {m1 : MS S (Fx γ)} {m2 : MS S (Fl α γ)} {e : α → Env} {eb : γ → Env} (h : EvT J tt ρ mt) (w : Wk ρ esc) (h1 : Sv J Ta esc tu ρ m1 (Fx.fin eb)) (h2 : Sv J T esc (tSeq tw tz) ρ m2 (Fl.fin e eb)) :
    Sv J T esc (tSeq (tIfS tt tu tw) tz) ρ (bnd mt fun b => if b = true then bnd m1 (fun r => ret r.up) else m2) (Fl.fin e eb) := fun σ G s H L o E ht q =>
  h.runS o w q fun b c G1 s1 H1 e1 o1 hc q1 => by
    cases hc
    cases b with
    | true =>
      refine h1 σ G1 s1 H1 L o1 { E with nx := tz E } trivial (Pss.bind (k := fun r => ret r.up) (m := m1) q1 fun a s' q2 => ?_)
      cases a <;> exact q2
    | false => exact h2 σ G1 s1 H1 L o1 E ht q1

/-! ### targets -/
/-- the target g takes data un-told apart; ex: the slots behind it; js: the slots that it sets -/
structure Tg (J : Jc S) (g : TG) (un : D → Option τ) (ex : τ → Env → Env) (js : List Nat) : Prop where
  go : ∀ d t ρ x σ G s H L, un d = some t → Ok J.Z (J.lay s) ρ G σ L H → Rp J.Z G x d → ∀ Q : Sl → Hp → Prop, (∀ σ' L', Ok J.Z (J.lay s) (ex t ρ) G σ' L' H → σ'.length = σ.length → (∀ i, i ∉ js → σ'[i]? = σ[i]?) → ((∀ j ∈ js, ∀ ds, ρ[j]? ≠ some (.O ds)) → L' = L) → Q σ' H) → g x σ H Q
theorem Cells.setP {Z : Wo} {v : V} {d : D} (r : Rp Z G v d) : ∀ {e : Env} {σ : Sl} {L : Led} (i : Nat), (∀ ds, e[i]? ≠ some (.O ds)) → Cells Z G e σ L → Cells Z G (e.set i (.P d)) (σ.set i (some v)) L
  | _, _, _, _, _, .nil => .nil
  | _, _, _, 0, _, .U c => .P r c
  | _, _, _, 0, _, .P q c => .P r c
  | _, _, _, 0, h, .O q c => absurd rfl (h _)
  | _, _, _, 0, _, .A f c => .P r c
  | _, _, _, i + 1, h, .U c => .U (c.setP r i (by simpa using h))
  | _, _, _, i + 1, h, .P q c => .P q (c.setP r i (by simpa using h))
  | _, _, _, i + 1, h, .O q c => .O q (c.setP r i (by simpa using h))
  | _, _, _, i + 1, h, .A f c => .A f (c.setP r i (by simpa using h))
theorem Ok.setP {B : Led} {i : Nat} {v : V} {d : D} (o : Ok J.Z B ρ G σ L H) (r : Rp J.Z G v d) : ∃ L', Ok J.Z B (ρ.set i (.P d)) G (σ.set i (some v)) L' H ∧ ((∀ ds, ρ[i]? ≠ some (.O ds)) → L' = L) := by
  by_cases h : ∀ ds, ρ[i]? ≠ some (.O ds)
  · exact ⟨L, ⟨o.1.setP r i h, o.2⟩, fun _ => rfl⟩
  · obtain ⟨L', o'⟩ := o.set (i := i) r
    exact ⟨L', o', fun h' => absurd h' h⟩
def un1 (d : D) : Option D := some d
theorem tg_name (i : Nat) : Tg J (gName i) un1 (fun d ρ => ρ.set i (.P d)) [i] where
  go := fun d t ρ x σ G s H L hu o r Q q => by
    cases hu
    obtain ⟨L', o', hL⟩ := o.setP (i := i) r
    refine q _ L' o' (by simp) (fun j hj => ?_) fun h => hL (h i (by simp))
    rw [List.getElem?_set_ne]
    exact fun e => hj (by simp [e])
def un2 : D → Option (D × D)
  | .tup [a, b] => some (a, b)
  | _ => none
theorem set_O {ρ : Env} {i j : Nat} {d : D} (h : ∀ ds, ρ[j]? ≠ some (.O ds)) : ∀ ds, (ρ.set i (.P d))[j]? ≠ some (.O ds) := fun ds e => by
  by_cases hij : i = j
  · subst hij
    by_cases hl : i < ρ.length
    · rw [List.getElem?_set_self hl] at e
      cases e
    · rw [List.getElem?_eq_none (by simpa using hl)] at e
      cases e
  · rw [List.getElem?_set_ne hij] at e
    exact h ds e
theorem un2_some {d : D} {t : D × D} (h : un2 d = some t) : d = .tup [t.1, t.2] := by
  unfold un2 at h
  split at h
  · cases h
    rfl
  · cases h
theorem tg_pair {K : PySem.W.Frag} (i j : Nat) : Tg J (gTup K 2 (gCons (gName i) (gCons (gName j) gNil))) un2 (fun t ρ => (ρ.set i (.P t.1)).set j (.P t.2)) [i, j] where
  go := fun d t ρ x σ G s H L hu o r Q q => by
    have e := un2_some hu
    subst e
    obtain ⟨a, xs, rfl, h1, r1⟩ := rp_ref r
    cases r1 with
    | cons ra r2 =>
      cases r2 with
      | cons rb r3 =>
        cases r3
        obtain ⟨L1, o1, h2⟩ := o.setP (i := i) ra
        obtain ⟨L2, o2, h3⟩ := o1.setP (i := j) rb
        refine ⟨a, _, rfl, sq_t (o.same _ _ h1), rfl, _, _, rfl, _, _, rfl, rfl, ?_⟩
        refine q _ L2 o2 (by simp) (fun k hk => ?_) fun h => ?_
        · rw [List.getElem?_set_ne (fun e => hk (by simp [e])), List.getElem?_set_ne (fun e => hk (by simp [e]))]
        · rw [h3 (set_O (h j (by simp))), h2 (h i (by simp))]
def un3 : D → Option (D × D × D)
  | .tup [a, b, c] => some (a, b, c)
  | _ => none
theorem un3_some {d : D} {t : D × D × D} (h : un3 d = some t) : d = .tup [t.1, t.2.1, t.2.2] := by
  unfold un3 at h
  split at h
  · cases h
    rfl
  · cases h
theorem tg_three {K : PySem.W.Frag} (i j k : Nat) : Tg J (gTup K 3 (gCons (gName i) (gCons (gName j) (gCons (gName k) gNil)))) un3 (fun t ρ => ((ρ.set i (.P t.1)).set j (.P t.2.1)).set k (.P t.2.2)) [i, j, k] where
  go := fun d t ρ x σ G s H L hu o r Q q => by
    have e := un3_some hu
    subst e
    obtain ⟨a, xs, rfl, h1, r1⟩ := rp_ref r
    cases r1 with
    | cons ra r2 =>
      cases r2 with
      | cons rb r3 =>
        cases r3 with
        | cons rc r4 =>
          cases r4
          obtain ⟨L1, o1, h2⟩ := o.setP (i := i) ra
          obtain ⟨L2, o2, h3⟩ := o1.setP (i := j) rb
          obtain ⟨L3, o3, h4⟩ := o2.setP (i := k) rc
          refine ⟨a, _, rfl, sq_t (o.same _ _ h1), rfl, _, _, rfl, _, _, rfl, _, _, rfl, rfl, ?_⟩
          refine q _ L3 o3 (by simp) (fun l hk => ?_) fun h => ?_
          · rw [List.getElem?_set_ne (fun e => hk (by simp [e])), List.getElem?_set_ne (fun e => hk (by simp [e])), List.getElem?_set_ne (fun e => hk (by simp [e]))]
          · rw [h4 (set_O (set_O (h k (by simp)))), h3 (set_O (h j (by simp))), h2 (h i (by simp))]
/-- a, b = e -/
theorem sv_asgT {te : TE} {g : TG} {un : D → Option τ} {ex : τ → Env → Env} {js : List Nat} {m : MS S D} (h : Ev J te ρ m) (w : Wk ρ esc) (hg : Tg J g un ex js) : Sv J Ta esc (tAsg te g) ρ (bnd m fun d => lft (un d)) (fun t => .nx (ex t ρ)) := fun σ G s H L o E _ q =>
  h.runS o w q fun d v G1 s1 H1 e1 o1 r q1 => Pss.lft q1 fun t ht q2 => hg.go d t ρ v σ G1 s1 H1 L ht o1 r _ fun σ' L' o2 _ _ _ => q2 σ' G1 H1 L' (Same.refl _) o2

/-! ### walks -/
def YD (Z : Wo) (G0 : Hp) (ds : List D) (i : Nat) (H : Hp) (x : V) (H' : Hp) : Prop := ∃ d, ds[i]? = some d ∧ ((H' = H ∧ Rp Z G0 x d) ∨ ∃ q u v du dv, x = .ref q ∧ H q = none ∧ H' = upd H q (.tup [u, v]) ∧ d = .tup [du, dv] ∧ Rp Z G0 u du ∧ Rp Z G0 v dv)
def PstI (J : Jc S) (ρ : Env) (σ : Sl) (L : Led) (G : Hp) (R : It → Hp → Prop) : Rs S (List D) → Prop
  | .stuck => False
  | .ex c fs s => Out J ρ σ L G c fs s
  | .ok ds s => ∀ I G' H, Same G G' → Ok J.Z (J.lay s) ρ G' σ L H → Walk I ds.length (fun H => Same G' H) (YD J.Z G' ds) → R I H
/-- what is walked gives the data that m says, one by one -/
def EvI (J : Jc S) (wi : TI) (ρ : Env) (m : MS S (List D)) : Prop := ∀ σ G s H L, Ok J.Z (J.lay s) ρ G σ L H → ∀ R, PstI J ρ σ L G R (m s) → wi σ H R
theorem PstI.mono {R : It → Hp → Prop} (e : Same G G') : ∀ {r : Rs S (List D)}, PstI J ρ σ L G R r → PstI J ρ σ L G' R r
  | .stuck, h => h
  | .ex _ _ _, h => Out.mono e h
  | .ok _ _, h => fun I G2 H2 a c => h I G2 H2 (e.trans a) c
theorem EvG.runI {R1 : Sl → Hp → γ → α → Prop} {t : Sl → Hp → (γ → Hp → Prop) → Prop} {m : MS S α} {k : α → MS S (List D)} {s : S} {R : It → Hp → Prop} (h1 : EvG J R1 t ρ m) (o : Ok J.Z (J.lay s) ρ G σ L H)
    (h : PstI J ρ σ L G R (bnd m k s)) {P : γ → Hp → Prop} (kk : ∀ a b G' s' H', Same G G' → Ok J.Z (J.lay s') ρ G' σ L H' → R1 σ G' b a → PstI J ρ σ L G' R (k a s') → P b H') : t σ H P := by
  refine h1 σ G s H L o _ ?_
  have h' : PstI J ρ σ L G R ((m s).go k) := h
  cases e : m s with
  | stuck =>
    rw [e] at h'
    exact h'
  | ex c fs s' =>
    rw [e] at h'
    exact h'
  | ok a s' =>
    rw [e] at h'
    exact fun b G' H' sm o' r => kk a b G' s' H' sm o' r (PstI.mono sm h')
theorem PstI.lft {R : It → Hp → Prop} {o : Option (List D)} {s : S} {P : Prop} (h : PstI J ρ σ L G R ((lft o : MS S (List D)) s)) (k : ∀ a, o = some a → PstI J ρ σ L G R (.ok a s) → P) : P := by
  cases o with
  | none => exact h.elim
  | some a => exact k a rfl h
theorem RpAll.at {Z : Wo} {xs : List V} {ds : List D} {i : Nat} {x : V} (r : RpAll Z G xs ds) (h : xs[i]? = some x) : ∃ d, ds[i]? = some d ∧ Rp Z G x d := r.getV h
theorem wd_list {Z : Wo} {K : PySem.W.Frag} {a : Addr} {xs : List V} {ds : List D} (h : G a = some (.lst xs)) (r : RpAll Z G xs ds) : Walk (Itl K a) ds.length (fun H => Same G H) (YD Z G ds) := by
  rw [← r.length]
  refine walk_list.mono (fun H s => sq_l (s _ _ h)) fun i H x H' hi s y => ?_
  obtain ⟨d, hd, rd⟩ := r.at y.2
  exact ⟨d, hd, .inl ⟨y.1, rd⟩⟩
theorem wd_tup {Z : Wo} {K : PySem.W.Frag} {a : Addr} {xs : List V} {ds : List D} (h : G a = some (.tup xs)) (r : RpAll Z G xs ds) : Walk (Itt K a) ds.length (fun H => Same G H) (YD Z G ds) := by
  rw [← r.length]
  refine walk_tup.mono (fun H s => sq_t (s _ _ h)) fun i H x H' hi s y => ?_
  obtain ⟨d, hd, rd⟩ := r.at y.2
  exact ⟨d, hd, .inl ⟨y.1, rd⟩⟩
/-- for x in e: a list or a tuple -/
def iSq (K : PySem.W.Frag) (tl : TE) : TI := fun σ H R => tl σ H fun x H1 => ∃ a, x = .ref a ∧ (((∃ xs, SqL K H1 a xs) ∧ R (Itl K a) H1) ∨ ((∃ xs, SqT K H1 a xs) ∧ R (Itt K a) H1))
theorem pi_sq {X : Cx} {tg l : Expr} {tl : TE} (hl : PE X l tl) : PI X tg l (iSq X.K tl) := by
  refine ⟨fun pins s σ H R I h => thn (hl.run pins s σ H _ I h) fun v s1 ⟨x, H1, I1, r1, a, e, q⟩ => ?_⟩
  subst e
  cases r1
  rcases q with ⟨⟨xs, hq⟩, q⟩ | ⟨⟨xs, hq⟩, q⟩
  · obtain ⟨its, rv, p, hz⟩ := I1.list hq
    exact wpAny_pyIter_list p.isList (pi_one (tk := s1.toks) I1 _ (turn_list a _) ⟨_, Heap.get?_push_size _ rfl, rfl, rfl⟩ q)
  · obtain ⟨its, rv, p, hz⟩ := I1.tuple hq
    exact wpAny_pyIter_tuple (show s1.heap.IsTuple a its.toArray from p) (pi_one (tk := s1.toks) I1 _ (turn_tuple a _) ⟨_, Heap.get?_push_size _ rfl, rfl, rfl⟩ q)
theorem Rp.items {Z : Wo} {v : V} {d : D} {ds : List D} (h : Rp Z G v d) (e : items d = some ds) : ∃ p xs, v = .ref p ∧ RpAll Z G xs ds ∧ (G p = some (.lst xs) ∨ G p = some (.tup xs)) := by
  cases h with
  | lst ha r =>
    cases e
    exact ⟨_, _, rfl, r, .inl ha⟩
  | tup ha r =>
    cases e
    exact ⟨_, _, rfl, r, .inr ha⟩
  | _ => cases e
theorem ei_sq {K : PySem.W.Frag} {tl : TE} {m : MS S D} (h : Ev J tl ρ m) : EvI J (iSq K tl) ρ (bnd m fun d => lft (items d)) := fun σ G s H L o R q =>
  h.runI o q fun d x G1 s1 H1 e1 o1 r q1 => PstI.lft q1 fun ds e q2 => by
    obtain ⟨p, xs, h1, r2, h2⟩ := Rp.items r e
    refine ⟨p, h1, ?_⟩
    rcases h2 with h2 | h2
    · exact .inl ⟨⟨xs, sq_l (o1.same _ _ h2)⟩, q2 _ G1 H1 (Same.refl _) o1 (wd_list h2 r2)⟩
    · exact .inr ⟨⟨xs, sq_t (o1.same _ _ h2)⟩, q2 _ G1 H1 (Same.refl _) o1 (wd_tup h2 r2)⟩
def rgD (lo : Int) (n : Nat) : List D := (List.range n).map fun (i : Nat) => D.int (lo + (i : Int))
theorem rgD_len (lo : Int) (n : Nat) : (rgD lo n).length = n := by
  unfold rgD
  simp
theorem rgD_at (lo : Int) (n : Nat) {i : Nat} (h : i < n) : (rgD lo n)[i]? = some (.int (lo + (i : Int))) := by
  unfold rgD
  simp [h]
def rg1 : List D → Option (List D)
  | [.int j] => if -(2 ^ 62) ≤ j ∧ j < 2 ^ 62 then some (rgD 0 j.toNat) else none
  | _ => none
def rg2 : List D → Option (List D)
  | [.int i, .int j] => if -(2 ^ 62) ≤ i ∧ i < 2 ^ 62 ∧ -(2 ^ 62) ≤ j ∧ j < 2 ^ 62 then some (rgD i (j - i).toNat) else none
  | _ => none
theorem wd_range {Z : Wo} {lo : Int} {n : Nat} : Walk (Itr lo n) (rgD lo n).length (fun H => Same G H) (YD Z G (rgD lo n)) := by
  rw [rgD_len]
  refine walk_range.mono (fun H s => trivial) fun i H x H' hi s y => ?_
  refine ⟨_, rgD_at lo n hi, .inl ⟨y.1, ?_⟩⟩
  rw [y.2]
  exact .int _
theorem ei_r1 {ta : TA} {m : MS S (List D)} (h : EvA J ta ρ m) : EvI J (iRng1 ta) ρ (bnd m fun ds => lft (rg1 ds)) := fun σ G s H L o R q =>
  h.runI o q fun ds xs G1 s1 H1 e1 o1 r q1 => PstI.lft q1 fun es e q2 => by
    unfold rg1 at e
    split at e
    · rename_i j
      split at e
      · rename_i hj
        cases e
        cases r with
        | cons r1 r2 =>
          cases r1
          cases r2
          exact ⟨j, rfl, hj.1, hj.2, q2 _ G1 H1 (Same.refl _) o1 wd_range⟩
      · cases e
    · cases e
theorem ei_r2 {ta : TA} {m : MS S (List D)} (h : EvA J ta ρ m) : EvI J (iRng2 ta) ρ (bnd m fun ds => lft (rg2 ds)) := fun σ G s H L o R q =>
  h.runI o q fun ds xs G1 s1 H1 e1 o1 r q1 => PstI.lft q1 fun es e q2 => by
    unfold rg2 at e
    split at e
    · rename_i i j
      split at e
      · rename_i hj
        cases e
        cases r with
        | cons r1 r2 =>
          cases r1
          cases r2 with
          | cons r3 r4 =>
            cases r3
            cases r4
            exact ⟨i, j, rfl, hj, q2 _ G1 H1 (Same.refl _) o1 wd_range⟩
      · cases e
    · cases e

/-! ### for -/
def forN (un : D → Option τ) (f : τ → α → MS S α) : List D → α → MS S α
  | [], a => ret a
  | d :: ds, a => bnd (lft (un d)) fun t => bnd (f t a) fun b => forN un f ds b
def forF (un : D → Option τ) (f : τ → α → MS S (Fl α α)) : List D → α → MS S (Fr α)
  | [], a => ret (.nx a)
  | d :: ds, a => bnd (lft (un d)) fun t => bnd (f t a) fun r => match r with
    | .nx b => forF un f ds b
    | .ct b => forF un f ds b
    | .bk b => ret (.nx b)
    | .rt e => ret (.rt e)
theorem YD.ok {Z : Wo} {B : Led} {G0 : Hp} {ds : List D} {i : Nat} {x : V} {H' : Hp} (s : Same G0 G) (o : Ok Z B ρ G σ L H) (y : YD Z G0 ds i H x H') : ∃ d G', ds[i]? = some d ∧ Same G G' ∧ Ok Z B ρ G' σ L H' ∧ Rp Z G' x d := by
  obtain ⟨d, hd, y⟩ := y
  rcases y with ⟨rfl, r⟩ | ⟨q, u, v, du, dv, rfl, hq, rfl, rfl, r1, r2⟩
  · exact ⟨d, G, hd, Same.refl _, o, r.mono s⟩
  · obtain ⟨sm, o'⟩ := o.lay (u := .tup [u, v]) hq
    exact ⟨_, _, hd, sm, o', .tup upd_same (.cons (r1.mono (s.trans sm)) (.cons (r2.mono (s.trans sm)) .nil))⟩
theorem sv_forN {wi : TI} {g : TG} {tb : TS} {un : D → Option τ} {ex : τ → Env → Env} {js : List Nat} {m : MS S (List D)} {f : τ → α → MS S α} (e : α → Env) (a0 : α) (h : EvI J wi (e a0) m) (w : Wk (e a0) esc) (hg : Tg J g un ex js)
    (hb : ∀ t a, Sv J Ta esc tb (ex t (e a)) (f t a) (fun b => .nx (e b))) : Sv J Ta esc (tFor wi g tb) (e a0) (bnd m fun ds => forN un f ds a0) (fun a => .nx (e a)) := fun σ G s H L o E _ q => by
  refine h σ G s H L o _ ?_
  have q' : Pss J esc G E (fun a => .nx (e a)) ((m s).go fun ds => forN un f ds a0) := q
  cases em : m s with
  | stuck =>
    rw [em] at q'
    exact q'
  | ex c fs s' =>
    rw [em] at q'
    exact Xo.out w q'
  | ok ds s' =>
    rw [em] at q'
    intro I G1 H1 sm o1 wk
    refine for_it wk (fun i σ H => ∃ a G2 s2 L2, Same G1 G2 ∧ Ok J.Z (J.lay s2) (e a) G2 σ L2 H ∧ Pss J esc G2 E (fun a => .nx (e a)) (forN un f (ds.drop i) a s2)) ⟨a0, G1, s', L, Same.refl _, o1, Pss.mono sm q'⟩ (fun i σ H _ ⟨a, G2, s2, L2, sm2, o2, _⟩ => sm2.trans o2.same) (fun i x σ2 H2 H3 hi p y => ?_) fun σ2 H2 p => ?_
    · obtain ⟨a, G2, s2, L2, sm2, o2, q2⟩ := p
      obtain ⟨d, G3, hd, sm3, o3, r⟩ := y.ok sm2 o2
      have hl : i < ds.length := hi
      have ed : ds.drop i = d :: ds.drop (i + 1) := by
        rw [List.drop_eq_getElem_cons hl]
        rw [List.getElem?_eq_getElem hl] at hd
        cases hd
        rfl
      rw [ed] at q2
      cases ht : un d with
      | none =>
        unfold forN at q2
        rw [ht] at q2
        exact q2.elim
      | some t =>
        unfold forN at q2
        rw [ht] at q2
        refine hg.go d t (e a) x σ2 G3 s2 H3 L2 ht o3 r _ fun σ4 L4 o4 _ _ _ => ?_
        refine hb t a σ4 G3 s2 H3 L4 o4 _ trivial (Pss.bind (E := E) (fin := fun a => .nx (e a)) (k := fun b => forN un f (ds.drop (i + 1)) b) (Pss.mono sm3 q2) fun b s5 q5 => ?_)
        exact fun σ6 G6 H6 L6 sm6 o6 => ⟨b, G6, s5, L6, (sm2.trans sm3).trans sm6, o6, Pss.mono sm6 q5⟩
    · obtain ⟨a, G2, s2, L2, sm2, o2, q2⟩ := p
      rw [List.drop_length] at q2
      exact q2 σ2 G2 H2 L2 (Same.refl _) o2
theorem sv_forF {wi : TI} {g : TG} {tb : TS} {un : D → Option τ} {ex : τ → Env → Env} {js : List Nat} {m : MS S (List D)} {f : τ → α → MS S (Fl α α)} (e : α → Env) (a0 : α) (h : EvI J wi (e a0) m) (w : Wk (e a0) esc) (hg : Tg J g un ex js)
    (hb : ∀ t a, Sv J Ta esc tb (ex t (e a)) (f t a) (Fl.fin e e)) : Sv J Ta esc (tFor wi g tb) (e a0) (bnd m fun ds => forF un f ds a0) (Fr.fin e) := fun σ G s H L o E _ q => by
  refine h σ G s H L o _ ?_
  have q' : Pss J esc G E (Fr.fin e) ((m s).go fun ds => forF un f ds a0) := q
  cases em : m s with
  | stuck =>
    rw [em] at q'
    exact q'
  | ex c fs s' =>
    rw [em] at q'
    exact Xo.out w q'
  | ok ds s' =>
    rw [em] at q'
    intro I G1 H1 sm o1 wk
    refine for_it wk (fun i σ H => ∃ a G2 s2 L2, Same G1 G2 ∧ Ok J.Z (J.lay s2) (e a) G2 σ L2 H ∧ Pss J esc G2 E (Fr.fin e) (forF un f (ds.drop i) a s2)) ⟨a0, G1, s', L, Same.refl _, o1, Pss.mono sm q'⟩ (fun i σ H _ ⟨a, G2, s2, L2, sm2, o2, _⟩ => sm2.trans o2.same) (fun i x σ2 H2 H3 hi p y => ?_) fun σ2 H2 p => ?_
    · obtain ⟨a, G2, s2, L2, sm2, o2, q2⟩ := p
      obtain ⟨d, G3, hd, sm3, o3, r⟩ := y.ok sm2 o2
      have hl : i < ds.length := hi
      have ed : ds.drop i = d :: ds.drop (i + 1) := by
        rw [List.drop_eq_getElem_cons hl]
        rw [List.getElem?_eq_getElem hl] at hd
        cases hd
        rfl
      rw [ed] at q2
      cases ht : un d with
      | none =>
        unfold forF at q2
        rw [ht] at q2
        exact q2.elim
      | some t =>
        unfold forF at q2
        rw [ht] at q2
        refine hg.go d t (e a) x σ2 G3 s2 H3 L2 ht o3 r _ fun σ4 L4 o4 _ _ _ => ?_
        refine hb t a σ4 G3 s2 H3 L4 o4 _ trivial (Pss.bind (E := E) (fin := Fr.fin e) (m := f t a) (Pss.mono sm3 q2) fun b s5 q5 => ?_)
        cases b with
        | nx b => exact fun σ6 G6 H6 L6 sm6 o6 => ⟨b, G6, s5, L6, (sm2.trans sm3).trans sm6, o6, Pss.mono sm6 q5⟩
        | ct b => exact fun σ6 G6 H6 L6 sm6 o6 => ⟨b, G6, s5, L6, (sm2.trans sm3).trans sm6, o6, Pss.mono sm6 q5⟩
        | bk b => exact q5
        | rt b => exact q5
    · obtain ⟨a, G2, s2, L2, sm2, o2, q2⟩ := p
      rw [List.drop_length] at q2
      exact q2 σ2 G2 H2 L2 (Same.refl _) o2
/-! ### while: n turns at most -/
def whlN (c : α → MS S Bool) (f : α → MS S α) : Nat → α → MS S α
  | 0, _ => stk
  | n + 1, a => bnd (c a) fun b => if b = true then bnd (f a) fun a' => whlN c f n a' else ret a
def whlF (c : α → MS S Bool) (f : α → MS S (Fl α α)) : Nat → α → MS S (Fr α)
  | 0, _ => stk
  | n + 1, a => bnd (c a) fun b => if b = true then bnd (f a) fun r => (match r with
    | .nx b => whlF c f n b
    | .ct b => whlF c f n b
    | .bk b => ret (.nx b)
    | .rt e => ret (.rt e)) else ret (.nx a)
theorem sv_whlN {tc : TT} {tb : TS} {c : α → MS S Bool} {f : α → MS S α} (e : α → Env) (a0 : α) (n : Nat) (h : ∀ a, EvT J tc (e a) (c a)) (w : ∀ a, Wk (e a) esc)
    (hb : ∀ a, Sv J Ta esc tb (e a) (f a) (fun b => .nx (e b))) : Sv J Ta esc (tWhile tc tb) (e a0) (whlN c f n a0) (fun a => .nx (e a)) := fun σ G s H L o E _ q => by
  refine ⟨fun k σ H => ∃ a G2 s2 L2, Ok J.Z (J.lay s2) (e a) G2 σ L2 H ∧ Pss J esc G2 E (fun a => .nx (e a)) (whlN c f k a s2), ⟨n, a0, G, s, L, o, q⟩, fun k σ H ⟨a, G2, s2, L2, o2, q2⟩ => ?_⟩
  cases k with
  | zero => exact q2.elim
  | succ k =>
    refine (h a).runS o2 (w a) q2 fun b b' G3 s3 H3 sm3 o3 hb' q3 => ?_
    cases hb'
    cases b with
    | true =>
      refine ⟨fun σ H => ∃ a G2 s2 L2, Ok J.Z (J.lay s2) (e a) G2 σ L2 H ∧ Pss J esc G2 E (fun a => .nx (e a)) (whlN c f k a s2), fun σ' H' p => ⟨k, Nat.lt_succ_self k, p⟩, ?_⟩
      refine hb a σ G3 s3 H3 L2 o3 _ trivial (Pss.bind (E := E) (fin := fun a => .nx (e a)) (k := fun b => whlN c f k b) q3 fun b s5 q5 => ?_)
      exact fun σ6 G6 H6 L6 sm6 o6 => ⟨b, G6, s5, L6, o6, Pss.mono sm6 q5⟩
    | false => exact q3 σ G3 H3 L2 (Same.refl _) o3
theorem sv_whlF {tc : TT} {tb : TS} {c : α → MS S Bool} {f : α → MS S (Fl α α)} (e : α → Env) (a0 : α) (n : Nat) (h : ∀ a, EvT J tc (e a) (c a)) (w : ∀ a, Wk (e a) esc)
    (hb : ∀ a, Sv J Ta esc tb (e a) (f a) (Fl.fin e e)) : Sv J Ta esc (tWhile tc tb) (e a0) (whlF c f n a0) (Fr.fin e) := fun σ G s H L o E _ q => by
  refine ⟨fun k σ H => ∃ a G2 s2 L2, Ok J.Z (J.lay s2) (e a) G2 σ L2 H ∧ Pss J esc G2 E (Fr.fin e) (whlF c f k a s2), ⟨n, a0, G, s, L, o, q⟩, fun k σ H ⟨a, G2, s2, L2, o2, q2⟩ => ?_⟩
  cases k with
  | zero => exact q2.elim
  | succ k =>
    refine (h a).runS o2 (w a) q2 fun b b' G3 s3 H3 sm3 o3 hb' q3 => ?_
    cases hb'
    cases b with
    | true =>
      refine ⟨fun σ H => ∃ a G2 s2 L2, Ok J.Z (J.lay s2) (e a) G2 σ L2 H ∧ Pss J esc G2 E (Fr.fin e) (whlF c f k a s2), fun σ' H' p => ⟨k, Nat.lt_succ_self k, p⟩, ?_⟩
      refine hb a σ G3 s3 H3 L2 o3 _ trivial (Pss.bind (E := E) (fin := Fr.fin e) (m := f a) q3 fun b s5 q5 => ?_)
      cases b with
      | nx b => exact fun σ6 G6 H6 L6 sm6 o6 => ⟨b, G6, s5, L6, o6, Pss.mono sm6 q5⟩
      | ct b => exact fun σ6 G6 H6 L6 sm6 o6 => ⟨b, G6, s5, L6, o6, Pss.mono sm6 q5⟩
      | bk b => exact q5
      | rt b => exact q5
    | false => exact q3 σ G3 H3 L2 (Same.refl _) o3
end
end Dm

set_option Elab.async false
set_option linter.all false
set_option maxRecDepth 100000
namespace Dm
open PySem PySem.Spec PyProof.Rows L2
section
variable {S : Type} {J : Jc S} {α β γ δ τ : Type} {ρ esc : Env} {σ : Sl} {G G' H : Hp} {L : Led} {T : Ends → Prop} {E : Ends}
/-! ### own lists, changed -/
/-- a change of the own list in slot i: the state behind it -/
theorem Ok.put {B : Led} {i : Nat} {ds : List D} (o : Ok J.Z B ρ G σ L H) (h : ρ[i]? = some (.O ds)) : ∃ (p : Addr) (xs : List V), σ[i]? = some (some (.ref p)) ∧ H p = some (.lst xs) ∧ RpAll J.Z G xs ds ∧
    ∀ ys es, RpAll J.Z G ys es → ∃ L', Ok J.Z B (ρ.set i (.O es)) G σ L' (upd H p (.lst ys)) := by
  obtain ⟨p, xs, L1, L2, a1, a2, a3, a4, a5⟩ := o.own h
  refine ⟨p, xs, a1, a3, a4, fun ys es r => ⟨_, a5 G ys es (Same.refl _) r, ?_⟩⟩
  have w := o.2
  rw [a2, List.append_assoc, List.cons_append] at w
  rw [List.append_assoc, List.cons_append]
  exact w.put
def app1 (ds : List D) (d : D) : Option (List D) := if ds.length < tooLong then some (ds ++ [d]) else none
theorem ite_some {p : Prop} [Decidable p] {a b : α} (h : (if p then some a else none) = some b) : p ∧ a = b := by
  by_cases hp : p
  · rw [if_pos hp] at h
    cases h
    exact ⟨hp, rfl⟩
  · rw [if_neg hp] at h
    cases h
/-- xs.append(e) -/
theorem sv_app {K : PySem.W.Frag} {i : Nat} {ds : List D} {te : TE} {m : MS S D} (hi : ρ[i]? = some (.O ds)) (h : Ev J te ρ m) (w : Wk ρ esc) :
    Sv J Ta esc (tDrop (tBM K "list" rAppend (tVar i) (tCons te tNil))) ρ (bnd m fun d => lft (app1 ds d)) (fun es => .nx (ρ.set i (.O es))) := fun σ G s H L o E _ q => by
  obtain ⟨p, xs, a1, a2, a3, _⟩ := o.put hi
  refine ⟨.ref p, a1, .inl ⟨rfl, xs, sq_l a2⟩, h.runS o w q fun d v G1 s1 H1 e1 o1 r q1 => Pss.lft q1 fun es he q2 => ?_⟩
  obtain ⟨hl, rfl⟩ := ite_some he
  obtain ⟨p', ys, b1, b2, b3, b4⟩ := o1.put hi
  rw [a1] at b1
  cases b1
  obtain ⟨L', o2⟩ := b4 (ys ++ [v]) (ds ++ [d]) (b3.append (.one r))
  exact ⟨p, ys, v, rfl, rfl, b2, long_lt (by rw [b3.length]; exact hl), q2 σ G1 _ L' (Same.refl _) o2⟩
def set1 (ds : List D) (k d : D) : Option (List D) := match k with
  | .int i => match ixN ds.length i with
    | some j => some (ds.set j d)
    | none => none
  | _ => none
/-- xs[k] = e -/
theorem sv_setI {i : Nat} {ds : List D} {te ti : TE} {m n : MS S D} (hi : ρ[i]? = some (.O ds)) (h : Ev J te ρ m) (hk : Ev J ti ρ n) (w : Wk ρ esc) :
    Sv J Ta esc (tAsg te (gSub (tVar i) ti rSetL)) ρ (bnd m fun d => bnd n fun k => lft (set1 ds k d)) (fun es => .nx (ρ.set i (.O es))) := fun σ G s H L o E _ q =>
  h.runS o w q fun d v G1 s1 H1 e1 o1 r q1 => by
    obtain ⟨p, xs, a1, a2, a3, _⟩ := o1.put hi
    refine ⟨.ref p, a1, hk.runS o1 w q1 fun k u G2 s2 H2 e2 o2 rk q2 => Pss.lft q2 fun es he q3 => ?_⟩
    cases k with
    | int z =>
      unfold set1 at he
      dsimp only at he
      cases e : ixN ds.length z with
      | none => rw [e] at he; cases he
      | some j =>
        rw [e] at he
        cases he
        obtain ⟨p', ys, b1, b2, b3, b4⟩ := o2.put hi
        rw [a1] at b1
        cases b1
        obtain ⟨L', o3⟩ := b4 (ys.set j v) (ds.set j d) (b3.set (r.mono e2) j)
        exact ⟨p, ys, z, j, rfl, rX.int (J := J) (ρ := ρ) (σ := σ) (.inl rk), b2, by rw [b3.length]; exact e, q3 σ G2 _ L' (Same.refl _) o3⟩
    | _ => cases he
def ins1 (ds : List D) (k d : D) : Option (List D) := match k with
  | .int i => if ds.length < tooLong ∧ 0 ≤ i ∧ i < 2 ^ 63 then some (ds.take i.toNat ++ [d] ++ ds.drop i.toNat) else none
  | _ => none
def rIns : V → List V → Hp → VK → Prop := fun x vs H Q => ∃ (l : Addr) (xs : List V) (i : Int) (y : V), x = .ref l ∧ vs = [.int i, y] ∧ H l = some (.lst xs) ∧ xs.length < sizeLine ∧ 0 ≤ i ∧ i < 2 ^ 63 ∧ Q .non (upd H l (.lst (xs.take i.toNat ++ [y] ++ xs.drop i.toNat)))
/-- xs.insert(k, e) -/
theorem sv_ins {K : PySem.W.Frag} {i : Nat} {ds : List D} {te ti : TE} {m n : MS S D} (hi : ρ[i]? = some (.O ds)) (hk : Ev J ti ρ n) (h : Ev J te ρ m) (w : Wk ρ esc) :
    Sv J Ta esc (tDrop (tBM K "list" rIns (tVar i) (tCons ti (tCons te tNil)))) ρ (bnd n fun k => bnd m fun d => lft (ins1 ds k d)) (fun es => .nx (ρ.set i (.O es))) := fun σ G s H L o E _ q => by
  obtain ⟨p, xs, a1, a2, a3, _⟩ := o.put hi
  refine ⟨.ref p, a1, .inl ⟨rfl, xs, sq_l a2⟩, hk.runS o w q fun k u G1 s1 H1 e1 o1 rk q1 => h.runS o1 w q1 fun d v G2 s2 H2 e2 o2 r q2 => Pss.lft q2 fun es he q3 => ?_⟩
  cases k with
  | int z =>
    unfold ins1 at he
    dsimp only at he
    obtain ⟨hl, rfl⟩ := ite_some he
    obtain ⟨p', ys, b1, b2, b3, b4⟩ := o2.put hi
    rw [a1] at b1
    cases b1
    obtain ⟨L', o3⟩ := b4 (ys.take z.toNat ++ [v] ++ ys.drop z.toNat) _ (((b3.take _).append (.one r)).append (b3.drop _))
    exact ⟨p, ys, z, v, rfl, by rw [rX.int (J := J) (ρ := ρ) (σ := σ) (.inl rk)], b2, long_lt (by rw [b3.length]; exact hl.1), hl.2.1, hl.2.2, q3 σ G2 _ L' (Same.refl _) o3⟩
  | _ => cases he
/-- xs.extend(e), e a list -/
def ext1 (ds : List D) (d : D) : Option (List D) := match d with
  | .lst es => if ds.length + es.length < tooLong then some (ds ++ es) else none
  | _ => none
theorem sv_ext {K : PySem.W.Frag} {i : Nat} {ds : List D} {te : TE} {m : MS S D} (hi : ρ[i]? = some (.O ds)) (h : Ev J te ρ m) (w : Wk ρ esc) :
    Sv J Ta esc (tDrop (tBM K "list" rExtend (tVar i) (tCons te tNil))) ρ (bnd m fun d => lft (ext1 ds d)) (fun es => .nx (ρ.set i (.O es))) := fun σ G s H L o E _ q => by
  obtain ⟨p, xs, a1, a2, a3, _⟩ := o.put hi
  refine ⟨.ref p, a1, .inl ⟨rfl, xs, sq_l a2⟩, h.runS o w q fun d v G1 s1 H1 e1 o1 r q1 => Pss.lft q1 fun es he q2 => ?_⟩
  cases d with
  | lst ks =>
    unfold ext1 at he
    dsimp only at he
    obtain ⟨hl, rfl⟩ := ite_some he
    obtain ⟨p', ys, b1, b2, b3, b4⟩ := o1.put hi
    rw [a1] at b1
    cases b1
    obtain ⟨b, zs, rfl, c1, c2⟩ := rX.lst (J := J) (ρ := ρ) (σ := σ) o1 (.inl r)
    obtain ⟨L', o2⟩ := b4 (ys ++ zs) _ (b3.append c2)
    exact ⟨p, b, ys, zs, rfl, rfl, b2, c1, long_ok (by rw [b3.length, c2.length]; exact hl), q2 σ G1 _ L' (Same.refl _) o2⟩
  | _ => cases he
/-- x = xs.pop() -/
def pop1 (ds : List D) : Option (D × List D) := match ds[ds.length - 1]? with
  | some d => some (d, ds.dropLast)
  | none => none
theorem RpAll.dropLast {Z : Wo} {xs : List V} {ds : List D} (r : RpAll Z G xs ds) : RpAll Z G xs.dropLast ds.dropLast := by
  rw [List.dropLast_eq_take, List.dropLast_eq_take, r.length]
  exact r.take _
theorem sv_asgPop {K : PySem.W.Frag} {i j : Nat} {ds : List D} (hi : ρ[i]? = some (.O ds)) (w : Wk ρ esc) :
    Sv J Ta esc (tAsg (tBM0 K "list" rPop (tVar i)) (gName j)) ρ (lft (pop1 ds)) (fun t => .nx ((ρ.set i (.O t.2)).set j (.P t.1))) := fun σ G s H L o E _ q => by
  obtain ⟨p, xs, a1, a2, a3, a4⟩ := o.put hi
  refine ⟨.ref p, a1, .inl ⟨rfl, xs, sq_l a2⟩, ?_⟩
  refine Pss.lft q fun t ht q1 => ?_
  unfold pop1 at ht
  cases e : ds[ds.length - 1]? with
  | none => rw [e] at ht; cases ht
  | some d =>
    rw [e] at ht
    cases ht
    obtain ⟨v, b1, b2⟩ := a3.get e
    obtain ⟨L', o1⟩ := a4 xs.dropLast ds.dropLast a3.dropLast
    obtain ⟨L2, o2⟩ := o1.set (i := j) b2
    exact ⟨p, xs, v, rfl, rfl, a2, by rw [a3.length]; exact b1, q1 _ G _ L2 (Same.refl _) o2⟩
/-- xs.pop(k), dropped -/
def popA (ds : List D) (k : D) : Option (List D) := match k with
  | .int i => if -(2 ^ 63) ≤ i ∧ i < 2 ^ 63 then match seqIndex? i ds.length with
      | some j => if j < ds.length then some (ds.eraseIdx j) else none
      | none => none
    else none
  | _ => none
theorem sv_popA {K : PySem.W.Frag} {i : Nat} {ds : List D} {ti : TE} {n : MS S D} (hi : ρ[i]? = some (.O ds)) (hk : Ev J ti ρ n) (w : Wk ρ esc) :
    Sv J Ta esc (tDrop (tBM K "list" rPopAt (tVar i) (tCons ti tNil))) ρ (bnd n fun k => lft (popA ds k)) (fun es => .nx (ρ.set i (.O es))) := fun σ G s H L o E _ q => by
  obtain ⟨p, xs, a1, a2, a3, _⟩ := o.put hi
  refine ⟨.ref p, a1, .inl ⟨rfl, xs, sq_l a2⟩, hk.runS o w q fun k u G1 s1 H1 e1 o1 rk q1 => Pss.lft q1 fun es he q3 => ?_⟩
  cases k with
  | int z =>
    unfold popA at he
    dsimp only at he
    by_cases hz : -(2 ^ 63) ≤ z ∧ z < 2 ^ 63
    · rw [if_pos hz] at he
      cases e : seqIndex? z ds.length with
      | none => rw [e] at he; cases he
      | some j =>
        rw [e] at he
        dsimp only at he
        obtain ⟨hl, rfl⟩ := ite_some he
        obtain ⟨p', ys, b1, b2, b3, b4⟩ := o1.put hi
        rw [a1] at b1
        cases b1
        obtain ⟨L', o3⟩ := b4 (ys.eraseIdx j) _ (b3.eraseIdx j)
        obtain ⟨v, c1, c2⟩ := b3.get (List.getElem?_eq_getElem hl)
        exact ⟨p, ys, z, j, v, rfl, by rw [rX.int (J := J) (ρ := ρ) (σ := σ) (.inl rk)], b2, hz.1, hz.2, by rw [b3.length]; exact e, c1, q3 σ G1 _ L' (Same.refl _) o3⟩
    · rw [if_neg hz] at he
      cases he
  | _ => cases he
/-- n += e, ints -/
theorem sv_aug {f : Int → Int → Int} {i : Nat} {a : D} {te : TE} {m : MS S D} (hi : ρ[i]? = some (.P a)) (h : Ev J te ρ m) (w : Wk ρ esc) :
    Sv J Ta esc (tAug i te (ipI f)) ρ (bnd m fun d => lft (oI f a d)) (fun d => .nx (ρ.set i (.P d))) := fun σ G s H L o E _ q => by
  obtain ⟨v, b1, b2⟩ := o.1.var hi
  refine ⟨v, b1, h.runS o w q fun d u G1 s1 H1 e1 o1 r q1 => Pss.lft q1 fun z hz q2 => ?_⟩
  cases a with
  | int x =>
    cases d with
    | int y =>
      cases hz
      cases b2
      cases r
      obtain ⟨L', o2⟩ := o1.set (i := i) (.int (f x y))
      exact ⟨x, y, rfl, rfl, q2 _ G1 H1 L' (Same.refl _) o2⟩
    | _ => cases hz
  | _ => cases hz

/-! ### comprehensions -/
def nex (m : MS S α) : MS S α := fun s => match m s with
  | .ok a s' => .ok a s'
  | _ => .stuck
theorem nex_ret (a : α) : (nex (ret a) : MS S α) = ret a := rfl
theorem nex_stk : (nex stk : MS S α) = stk := rfl
theorem nex_rse (c : Nat) (fs : List D) : (nex (rse c fs) : MS S α) = stk := rfl
theorem nex_lft (o : Option α) : (nex (lft o) : MS S α) = lft o := by
  cases o <;> rfl
theorem nex_bnd (m : MS S α) (k : α → MS S β) : nex (bnd m k) = bnd (nex m) fun a => nex (k a) := by
  funext s
  show (match (m s).go k with
    | .ok a s' => Rs.ok a s'
    | _ => .stuck) = (match m s with
    | .ok a s' => Rs.ok a s'
    | _ => .stuck).go fun a => nex (k a)
  cases m s <;> rfl
theorem nex_ite (b : Prop) [Decidable b] (m n : MS S α) : nex (if b then m else n) = if b then nex m else nex n := by
  by_cases h : b
  · rw [if_pos h, if_pos h]
  · rw [if_neg h, if_neg h]
def lcM (un : D → Option τ) (c : τ → MS S Bool) (f : τ → MS S D) : List D → MS S (List D)
  | [] => ret []
  | d :: ds => bnd (lft (un d)) fun t => bnd (nex (c t)) fun b => if b = true then bnd (nex (f t)) fun y => bnd (lcM un c f ds) fun ys => ret (y :: ys) else lcM un c f ds
def Jc.add (J : Jc S) (p : Addr) (xs : List V) : Jc S where
  Z := J.Z
  lay := fun s => (p, .lst xs) :: J.lay s
  X := fun _ _ _ _ => False
def wipeE (ρ : Env) : List Nat → Env
  | [] => ρ
  | v :: vs => (wipeE ρ vs).set v .U
def noO : Option Cell → Bool
  | some (.O _) => false
  | _ => true
theorem noO_ne {c : Option Cell} (h : noO c = true) : ∀ ds, c ≠ some (.O ds) := fun ds e => by
  subst e
  cases h
theorem Cells.setU {Z : Wo} {x : Option V} : ∀ {e : Env} {σ : Sl} {L : Led} (i : Nat), (∀ ds, e[i]? ≠ some (.O ds)) → Cells Z G e σ L → Cells Z G (e.set i .U) (σ.set i x) L
  | _, _, _, _, _, .nil => .nil
  | _, _, _, 0, _, .U c => .U c
  | _, _, _, 0, _, .P q c => .U c
  | _, _, _, 0, h, .O q c => absurd rfl (h _)
  | _, _, _, 0, _, .A f c => .U c
  | _, _, _, i + 1, h, .U c => .U (c.setU i (by simpa using h))
  | _, _, _, i + 1, h, .P q c => .P q (c.setU i (by simpa using h))
  | _, _, _, i + 1, h, .O q c => .O q (c.setU i (by simpa using h))
  | _, _, _, i + 1, h, .A f c => .A f (c.setU i (by simpa using h))
theorem set_U {ρ : Env} {i j : Nat} (h : ∀ ds, ρ[j]? ≠ some (.O ds)) : ∀ ds, (ρ.set i .U)[j]? ≠ some (.O ds) := fun ds e => by
  by_cases hij : i = j
  · subst hij
    by_cases hl : i < ρ.length
    · rw [List.getElem?_set_self hl] at e
      cases e
    · rw [List.getElem?_eq_none (by simpa using hl)] at e
      cases e
  · rw [List.getElem?_set_ne hij] at e
    exact h ds e
theorem wipeE_O {j : Nat} (h : ∀ ds, ρ[j]? ≠ some (.O ds)) : ∀ vs : List Nat, ∀ ds, (wipeE ρ vs)[j]? ≠ some (.O ds)
  | [] => h
  | _ :: vs => set_U (wipeE_O h vs)
theorem Cells.wipe {Z : Wo} : ∀ {vs : List Nat}, (∀ v ∈ vs, ∀ ds, ρ[v]? ≠ some (.O ds)) → Cells Z G ρ σ L → Cells Z G (wipeE ρ vs) (L2.wipe σ vs) L
  | [], _, c => c
  | v :: vs, h, c => Cells.setU v (wipeE_O (h v (by simp)) vs) (Cells.wipe (fun u hu => h u (by simp [hu])) c)
theorem wipe_at (σ : Sl) (i : Nat) : ∀ vs : List Nat, (L2.wipe σ vs)[i]? = if i ∈ vs then (σ[i]?).map (fun _ => none) else σ[i]?
  | [] => by
    rw [if_neg (by simp)]
    rfl
  | v :: vs => by
    show ((L2.wipe σ vs).set v none)[i]? = _
    by_cases hv : v = i
    · subst hv
      rw [if_pos (by simp)]
      by_cases hl : v < (L2.wipe σ vs).length
      · rw [List.getElem?_set_self hl]
        rw [wipe_length] at hl
        rw [List.getElem?_eq_getElem hl]
        rfl
      · rw [List.getElem?_eq_none (by simpa using hl)]
        rw [wipe_length] at hl
        rw [List.getElem?_eq_none (by omega)]
        rfl
    · rw [List.getElem?_set_ne hv, wipe_at σ i vs]
      by_cases hi : i ∈ vs
      · rw [if_pos hi, if_pos (by simp [hi])]
      · rw [if_neg hi, if_neg (by simp [hi, Ne.symm hv])]
theorem wipe_back {σ σ' : Sl} {vs js : List Nat} (hj : ∀ j ∈ js, j ∈ vs) (hl : σ'.length = (L2.wipe σ vs).length) (h : ∀ i, i ∉ js → σ'[i]? = (L2.wipe σ vs)[i]?) : L2.wipe σ' vs = L2.wipe σ vs := by
  refine List.ext_getElem? fun i => ?_
  rw [wipe_at, wipe_at]
  by_cases hi : i ∈ vs
  · rw [if_pos hi, if_pos hi]
    rw [wipe_length] at hl
    by_cases hlt : i < σ.length
    · rw [List.getElem?_eq_getElem hlt, List.getElem?_eq_getElem (by omega)]
      rfl
    · rw [List.getElem?_eq_none (by omega), List.getElem?_eq_none (by omega)]
  · rw [if_neg hi, if_neg hi, h i (fun z => hi (hj i z)), wipe_at, if_neg hi]
theorem EvI.runL {wi : TI} {m : MS S (List D)} {k : List D → MS S (List D)} {s : S} {Q : VK} (h1 : EvI J wi ρ m) (o : Ok J.Z (J.lay s) ρ G σ L H) (h : PstL J ρ σ L G Q (bnd m k s)) {R : It → Hp → Prop}
    (kk : ∀ ds I G' s' H', Same G G' → Ok J.Z (J.lay s') ρ G' σ L H' → Walk I ds.length (fun H => Same G' H) (YD J.Z G' ds) → PstL J ρ σ L G' Q (k ds s') → R I H') : wi σ H R := by
  refine h1 σ G s H L o _ ?_
  have h' : PstL J ρ σ L G Q ((m s).go k) := h
  cases e : m s with
  | stuck =>
    rw [e] at h'
    exact h'
  | ex c fs s' =>
    rw [e] at h'
    exact h'
  | ok a s' =>
    rw [e] at h'
    exact fun I G' H' sm o' wk => kk a I G' s' H' sm o' wk (PstL.mono sm h')
/-- within a comprehension: what is raised is not said -/
theorem EvG.runC {ρ' : Env} {σ' : Sl} {L' : Led} {p : Addr} {xs : List V} {R1 : Sl → Hp → γ → α → Prop} {t : Sl → Hp → (γ → Hp → Prop) → Prop} {Q : VK} {m : MS S α} {k : α → MS S (List D)} {s : S} (h1 : EvG (J.add p xs) R1 t ρ' m)
    (o : Ok J.Z ((p, .lst xs) :: J.lay s) ρ' G σ' L' H) (h : PstL J ρ σ L G Q (bnd (nex m) k s)) {P : γ → Hp → Prop} (kk : ∀ a b G' s' H', Same G G' → Ok J.Z ((p, .lst xs) :: J.lay s') ρ' G' σ' L' H' → R1 σ' G' b a → PstL J ρ σ L G' Q (k a s') → P b H') : t σ' H P := by
  refine h1 σ' G s H L' o _ ?_
  have h' : PstL J ρ σ L G Q ((match m s with
    | .ok a s' => Rs.ok a s'
    | _ => .stuck).go k) := h
  cases e : m s with
  | stuck =>
    rw [e] at h'
    exact h'
  | ex c fs s' =>
    rw [e] at h'
    exact h'.elim
  | ok a s' =>
    rw [e] at h'
    exact fun b G' H' sm o' r => kk a b G' s' H' sm o' r (PstL.mono sm h')
theorem el_lc {wi : TI} {g : TG} {tt : TT} {te : TE} {un : D → Option τ} {ex : τ → Env → Env} {js vs : List Nat} {m : MS S (List D)} {c : τ → MS S Bool} {f : τ → MS S D} (h : EvI J wi ρ m) (hg : ∀ p xs, Tg (J.add p xs) g un ex js)
    (ht : ∀ t p xs, EvT (J.add p xs) tt (ex t (wipeE ρ vs)) (c t)) (he : ∀ t p xs, Ev (J.add p xs) te (ex t (wipeE ρ vs)) (f t)) (hj : ∀ j ∈ js, j ∈ vs := by decide) (hO : ∀ v ∈ vs, noO ρ[v]? = true := by decide) :
    EvL J (tLc wi g tt te vs) ρ (bnd m fun ds => bnd (lft (mkL ds)) fun ds => lcM un c f ds) := fun σ G s H L o Q q =>
  h.runL o q fun ds0 I G1 s1 H1 e1 o1 wk q1 Dp hD => by
    have hO' : ∀ v ∈ vs, ∀ ds, ρ[v]? ≠ some (.O ds) := fun v hv => noO_ne (hO v hv)
    cases hds : mkL ds0 with
    | none =>
      rw [hds] at q1
      exact q1.elim
    | some ds =>
    rw [hds] at q1
    obtain ⟨rfl, hlen⟩ := mkL_some hds
    refine lc_it wk (fun i H => ∃ as xs G2 s2, Same G1 G2 ∧ Cells J.Z G2 ρ σ L ∧ Wd G2 ((Dp, .lst xs) :: (L ++ J.lay s2)) H ∧ RpAll J.Z G2 xs as ∧ as.length ≤ i ∧ PstL J ρ σ L G2 Q (bnd (lcM un c f (ds.drop i)) (fun ys => ret (as ++ ys)) s2))
      ⟨[], [], G1, s1, Same.refl _, o1.1, o1.2.keep hD, .nil, Nat.le_refl _, ?_⟩ (fun i H _ ⟨as, xs, G2, s2, sm, _, w, _⟩ => sm.trans w.same) (fun i x H2 H3 hi p y => ?_) fun H2 p => ?_
    · have e0 : (bnd (lcM un c f (ds.drop 0)) fun ys => ret ([] ++ ys)) = lcM un c f ds := by
        show (bnd (lcM un c f ds) fun ys => ret ys) = _
        exact bnd_id _
      rw [e0]
      exact q1
    · obtain ⟨as, xs, G2, s2, sm2, c2, w2, r2, hle, q2⟩ := p
      have hl : i < ds.length := hi
      have o2 : Ok J.Z ((Dp, .lst xs) :: J.lay s2) ρ G2 σ L H2 := ⟨c2, w2.perm List.perm_middle⟩
      obtain ⟨d, G3, hd, sm3, o3, r⟩ := y.ok sm2 o2
      have ed : ds.drop i = d :: ds.drop (i + 1) := by
        rw [List.drop_eq_getElem_cons hl]
        rw [List.getElem?_eq_getElem hl] at hd
        cases hd
        rfl
      rw [ed] at q2
      cases hu : un d with
      | none =>
        unfold lcM at q2
        rw [hu] at q2
        exact q2.elim
      | some t =>
        unfold lcM at q2
        rw [hu] at q2
        have q3 : PstL J ρ σ L G2 Q (bnd (bnd (nex (c t)) fun b => if b = true then bnd (nex (f t)) fun y => bnd (lcM un c f (ds.drop (i + 1))) fun ys => ret (y :: ys) else lcM un c f (ds.drop (i + 1))) (fun ys => ret (as ++ ys)) s2) := q2
        rw [bnd_bnd] at q3
        have ow : Ok (J.add Dp xs).Z ((J.add Dp xs).lay s2) (wipeE ρ vs) G3 (L2.wipe σ vs) L H3 := ⟨o3.1.wipe hO', o3.2⟩
        refine (hg Dp xs).go d t _ x _ G3 s2 H3 L hu ow r _ fun σ4 L4 o4 hlen4 hsame hL4 => ?_
        have eL : L4 = L := hL4 fun j hjj => wipeE_O (hO' j (hj j hjj)) vs
        subst eL
        refine ⟨wipe_back hj hlen4 hsame, ?_⟩
        refine (ht t Dp xs).runC (ρ := ρ) (σ := σ) (L := L4) o4 (PstL.mono sm3 q3) fun b b' G5 s5 H5 sm5 o5 hb q5 => ?_
        cases hb
        cases b with
        | false =>
          refine ⟨as, xs, G5, s5, (sm2.trans sm3).trans sm5, c2.mono (sm3.trans sm5), o5.2.perm List.perm_middle.symm, r2.mono (sm3.trans sm5), Nat.le_succ_of_le hle, q5⟩
        | true =>
          rw [if_pos rfl, bnd_bnd] at q5
          refine (he t Dp xs).runC (ρ := ρ) (σ := σ) (L := L4) o5 q5 fun y vv G6 s6 H6 sm6 o6 ry q6 => ?_
          have w6 : Wd G6 ((Dp, .lst xs) :: (L4 ++ J.lay s6)) H6 := o6.2.perm List.perm_middle.symm
          have sm36 := (sm3.trans sm5).trans sm6
          refine ⟨xs, (w6.own (Dp, .lst xs) List.mem_cons_self).1, long_lt (by rw [r2.length]; omega), as ++ [y], xs ++ [vv], G6, s6, sm2.trans sm36, c2.mono sm36, w6.put (L1 := []), (r2.mono sm36).append (.one ry), by rw [List.length_append]; exact Nat.succ_le_succ hle, ?_⟩
          rw [bnd_bnd] at q6
          have e9 : (bnd (lcM un c f (ds.drop (i + 1))) fun ys => bnd (ret (y :: ys)) fun ys => ret (as ++ ys)) = bnd (lcM un c f (ds.drop (i + 1))) fun ys => (ret (as ++ [y] ++ ys) : MS S (List D)) := by
            congr 1
            funext ys
            show ret (as ++ y :: ys) = _
            rw [List.append_assoc]
            rfl
          rw [e9] at q6
          exact q6
    · obtain ⟨as, xs, G2, s2, sm2, c2, w2, r2, hle, q2⟩ := p
      rw [List.drop_length] at q2
      have q3 : PstL J ρ σ L G2 Q (.ok (as ++ []) s2) := q2
      rw [List.append_nil] at q3
      exact q3 Dp xs G2 H2 (Same.refl _) ⟨c2, w2⟩ r2
theorem et_yes : EvT J tYes ρ (ret true) := fun σ G s H L o Q q => q true G H (Same.refl _) o rfl

/-! ### defs: what is promised, how they are called -/
def EndP (Z : Wo) (lay : S → Led) (G : Hp) (Q : VK) (E : XK) : Rs S D → Prop
  | .stuck => False
  | .ok d s => ∀ v G' H', Same G G' → Wd G' (lay s) H' → Rp Z G' v d → Q v H'
  | .ex c fs s => ∀ dx vs G' H', Same G G' → Wd G' (lay s) H' → G' dx = some (.xd ((Z.fn c).zip vs)) → (Z.fn c).length = vs.length → RpAll Z G' vs fs → E (.ref (Z.cl c)) (some dx) H'
/-- a def's promise: it does what m says of the data -/
def spM (Z : Wo) (m : (S : Type) → List D → MS S D) : Sp := fun vs H Q E => ∃ (S : Type) (lay : S → Led) (G : Hp) (s : S) (ds : List D), Wd G (lay s) H ∧ RpAll Z G vs ds ∧ EndP Z lay G Q E (m S ds s)
theorem spM_len {Z : Wo} {m : (S : Type) → List D → MS S D} {n : Nat} (hm : ∀ S ds, ds.length ≠ n → m S ds = stk) {vs : List V} {H : Hp} {Q : VK} {E : XK} (h : spM Z m vs H Q E) : vs.length = n := by
  obtain ⟨S, lay, G, s, ds, w, r, e⟩ := h
  by_cases hl : ds.length = n
  · rw [r.length, hl]
  · rw [hm S ds hl] at e
    exact e.elim
theorem ev_call {m : (S : Type) → List D → MS S D} {dvs : List V} {dds : List D} {ta : TA} {ma : MS S (List D)} (h : EvA J ta ρ ma) (hd : ∀ G, RpAll J.Z G dvs dds := by intro _; repeat constructor) :
    Ev J (tCallSD (spM J.Z m) dvs (WE J.X) ta) ρ (bnd ma fun ds => m S (ds ++ dds)) := fun σ G s H L o Q q =>
  h.run o q fun ds xs G1 s1 H1 e1 o1 r q1 => by
    refine ⟨S, fun s => L ++ J.lay s, G1, s1, ds ++ dds, o1.2, RpAll.append r (hd G1), ?_⟩
    cases e : m S (ds ++ dds) s1 with
    | stuck =>
      rw [e] at q1
      exact q1
    | ex c fs s2 =>
      rw [e] at q1
      exact fun dx vs G' H' sm w a b rr => q1 dx vs G' H' sm ⟨o1.1.mono sm, w⟩ a b rr
    | ok d s2 =>
      rw [e] at q1
      exact fun v G' H' sm w rr => q1 v G' H' sm ⟨o1.1.mono sm, w⟩ rr
/-- a def's body keeps its promise -/
def ends (Q : VK) : Ends := { nx := fun _ H => Q .non H, rt := Q }
theorem body_ok {t : TS} {m : MS S D} {Q : VK} {X : XK} {s : S} (sv : Sv J Tl esc t ρ m Fin.rt) (o : Ok J.Z (J.lay s) ρ G σ L H) (hX : ∀ cls d σ H, X cls d H → J.X cls d σ H) (e : EndP J.Z J.lay G Q X (m s)) : t (ends Q) σ H := by
  refine sv σ G s H L o (ends Q) (fun σ H q => q) ?_
  cases em : m s with
  | stuck =>
    rw [em] at e
    exact e
  | ex c fs s2 =>
    rw [em] at e
    exact fun σ' dx vs G' H' L' sm o' a b rr => hX _ _ _ _ (e dx vs G' H' sm o'.wd a b rr)
  | ok d s2 =>
    rw [em] at e
    exact e
end
/-- the slots at a def's start -/
def startE (ds : List D) (n : Nat) : Env := ds.map Cell.P ++ List.replicate n .U
theorem cells_more {Z : Wo} {G : Hp} {e : Env} {σ : Sl} {L : Led} (c : Cells Z G e σ L) : ∀ {vs : List V} {ds : List D}, RpAll Z G vs ds → Cells Z G (ds.map Cell.P ++ e) (vs.map some ++ σ) L
  | _, _, .nil => c
  | _, _, .cons h r => .P h (cells_more c r)
theorem cells_none {Z : Wo} {G : Hp} : ∀ n : Nat, Cells Z G (List.replicate n .U) (List.replicate n none) []
  | 0 => .nil
  | n + 1 => .U (cells_none n)
theorem cells_start {Z : Wo} {G : Hp} {N : List Str} {vs : List V} {ds : List D} {n : Nat} (r : RpAll Z G vs ds) (h : N.length = ds.length + n) : Cells Z G (startE ds n) (L2.start N vs) [] := by
  unfold startE L2.start
  have e : N.length - vs.length = n := by
    rw [r.length, h]
    omega
  rw [e]
  exact cells_more (cells_none n) r
end Dm

set_option Elab.async false
set_option linter.all false
set_option maxRecDepth 100000
set_option maxHeartbeats 2000000
namespace Dm
open PySem PySem.Spec PyProof.Rows L2

/-! ### try: several clauses, each with a name or without -/
/-- D, the clause's name let go behind it -/
def gone (E : Ends) : Option Nat → Ends
  | none => E
  | some i => { nx := fun σ H => E.nx (σ.set i none) H, rt := E.rt, bk := fun σ H => E.bk (σ.set i none) H, ct := fun σ H => E.ct (σ.set i none) H }
def held (σ : Sl) (a : Addr) : Option Nat → Sl
  | none => σ
  | some i => σ.set i (some (.ref a))
abbrev Cls3 := Value × Option Nat × (Addr → Value → Option Addr → TS)
def wHs (K : PySem.W.Frag) (Wo : WX) (E : Ends) : List Cls3 → WX
  | [] => Wo
  | q :: r => fun cls d σ H => ∃ b, PySem.W.exmOne K cls q.1 = some b ∧ (b = true → ∀ a, H a = none → q.2.2 a cls d (gone E q.2.1) (held σ a q.2.1) H) ∧ (b = false → wHs K Wo E r cls d σ H)
/-- the clause's name is a slot -/
def Nm (X : Cx) : Option Str → Option Nat → Prop
  | none, none => True
  | some n, some i => X.N[i]? = some n ∧ X.env.kindOf n = some .local
  | _, _ => False
inductive HdsA (X : Cx) : List ExceptHandler → List Cls3 → Prop
  | nil : HdsA X [] []
  | cons {x : Str} {n : Option Str} {i : Option Nat} {c : Value} {ts : Addr → Value → Option Addr → TS} {b₀ : Stmt} {sts : List Stmt} {p1 p2 : Pos} {hs : List ExceptHandler} {l : List Cls3} (hc : Names X x c) (hn : Nm X n i)
      (hu : ∀ (a : Addr) (oe : Obj) (cls : Value) (d : Option Addr) (pn : List (Addr × Obj)), Zc cls d oe → (∃ vs, oe.data = .fields vs) → PSs (X.suite a ((a, oe) :: pn)) (b₀ :: sts) (ts a cls d)) (r : HdsA X hs l) :
      HdsA X (.ExceptHandler (some (.Name x p1)) n (b₀ :: sts) p2 :: hs) ((c, i, ts) :: l)
section
variable {X : Cx} {body : List Stmt} {k0 : ExceptHandler} {ks : List ExceptHandler} {l : List Cls3} {pos : Pos} {tb : WX → TS} {Wo : WX}
theorem ps_tryA (hst : X.stack = X.env :: X.outer) (hfr : X.env.frame = some X.env.locals) (hN : X.N.Nodup) (tk : Takes X Wo)
    (hb : ∀ (W : WX) (pn : List (Addr × Obj)) (xe : Value → Shared → Prop), Takes (X.tr pn xe) W → PassesOwn (model X.prog X.w) X.A X.env xe → PSs (X.tr pn xe) body (tb W)) (hh : HdsA X (k0 :: ks) l) :
    PS X (.Try body (k0 :: ks) [] [] pos) (fun E σ H => tb (wHs X.K Wo E l) E σ H) := by
  constructor
  intro pins s σ H D I hw
  have okX := I.ok
  have frames : X.A.frames = some (X.env :: X.outer) := by
    rw [okX.frames, hst]
  apply wpAny_Try_except
  let xe' : Value → Shared → Prop := fun e u1 => wpAny (model X.prog X.w) X.A (noteFrame e X.env) (fun _ u2 => wpAny (model X.prog X.w) X.A (setFlight e none) (fun _ u3 => wpAny (model X.prog X.w) X.A (handleBy e X.env (k0 :: ks)) (SP X pins D) X.xe u3) X.xe u2) X.xe u1
  have B1 := hb (wHs X.K Wo D l) (X.pn ++ pins) xe' (fun u t0 xx => ?caught) PassesOwn.looking
  case caught =>
    obtain ⟨a, B, sI, pins', σ1, H1, cls, d, rfl, I', nb, up, sky, na, os, ag, wish⟩ := xx
    have I1 : Inv X pins σ1 H1 sI := I'.ofTry okX
    have sky1 : Sky B (X.env :: X.outer) a (Zc cls d) X.env.locals t0.heap := by
      rw [← hst]
      exact sky
    refine (Sky.land Zc.steady frames hfr sky1 fun g3 fly3 up3 => ?_ : wpAny (model X.prog X.w) X.A (noteFrame (.ref a) X.env) _ _ _)
    have I3 : Inv X pins σ1 H1 { t0 with heap := g3 } := I1.landed nb fly3.1 (up.trans up3) os ag
    obtain ⟨o3, w3, at3, z3, dt3⟩ := fly3.there
    have far : a ∉ frs (X.env :: X.outer) := fun hm => by
      obtain ⟨_, o', e', hno⟩ := fly3.2.2.1.mem hm
      rw [at3] at e'
      cases e'
      exact hno _ dt3
    have aL : a ≠ X.env.locals := fun z => far (List.mem_filterMap.mpr ⟨X.env, List.mem_cons_self, by rw [hfr, z]⟩)
    have aF : a ∉ X.fs := fun hm => by
      obtain ⟨e, he, q⟩ := List.mem_filterMap.mp hm
      exact far (List.mem_filterMap.mpr ⟨e, List.mem_cons_of_mem _ he, q⟩)
    have S3 := I3.suite at3 dt3 na aL aF
    have each : ∀ {hs' : List ExceptHandler} {l' : List Cls3}, HdsA X hs' l' → wHs X.K Wo D l' cls d σ1 H1 → wpAny (model X.prog X.w) X.A (handleBy (.ref a) X.env hs') (SP X pins D) X.xe { t0 with heap := g3 } := by
      intro hs' l' hk
      induction hk with
      | nil =>
        intro wsh
        refine wpAny_handleBy_nil ?_
        obtain ⟨j1, j2, j3, oe, vs, T, oT, ts', he, hz, hd, h1, hr⟩ := id fly3
        unfold PySem.passOn
        refine wpAny_bind (wpAny_field he hd h1 ?_)
        have nn : ¬ ((Value.ref T == Value.none) = true) := by simp
        rw [if_neg nn]
        have last : wpAny (model X.prog X.w) X.A (setFlight (.ref a) X.env.frame) (fun _ u4 => wpAny (model X.prog X.w) X.A (throw (.ref a) : Sem Flow) (SP X pins D) X.xe u4) X.xe { t0 with heap := g3 } := by
          rw [hfr]
          refine HandSPX.setFlight_upZ fly3 fun g4 gg4 up4 => wpAny_throw (tk _ _ ?_)
          exact ⟨a, B, sI, pins, σ1, H1, cls, d, rfl, I1, nb, (up.trans up3).trans up4, .inr (.inr (by rw [hst]; exact gg4)), na, os, ag, wsh⟩
        first
          | exact wpAny_bind (wpAny_pure (wpAny_bind last))
          | exact wpAny_bind last
      | @cons x n i c ts b₀ sts p1 p2 hs2 l2 hc hn hu r ih =>
        intro wsh
        obtain ⟨b, hb1, yes, no⟩ := wsh
        refine wpAny_handleBy_cons (codeAny_handlers_test ?_) (by intro q; cases q)
        have look : PySem.W.Looks (model X.prog X.w) g3 (typeOf (.ref a)) cls := fun A Q E s k q => wpAny_typeOf_ref (k _ _ at3) (by rw [z3.1]; exact q)
        have match1 := PySem.W.exm_one (M := model X.prog X.w) I3.kIn look hb1
        have names : ∀ {Q : Value → Shared → Prop} {E : Value → Shared → Prop}, Q c { t0 with heap := g3 } → wpAny (model X.prog X.w) (X.A.mark (some (.ref a))) (eval (.Name x p1) X.env) Q E { t0 with heap := g3 } := fun {Q E} q => by
          obtain ⟨hg, hdb, hm | ⟨hm, hv, hnn⟩⟩ := hc
          · exact ld_glob (X := X.suite a ((a, o3) :: (X.pn ++ pins))) S3 hg hm q hdb
          · exact ld_blt (X := X.suite a ((a, o3) :: (X.pn ++ pins))) S3 hg hm hv q hnn hdb
        refine names (match1.here ?_)
        cases b with
        | false => exact ih (no rfl)
        | true =>
          have yes1 := yes rfl a na
          cases n with
          | none =>
            cases i with
            | some i => exact hn.elim
            | none =>
              refine codeAny_handlers_suite (HandSPX.lands_againZ fly3 fun g4 fly4 up4 => ?_)
              have I4 : Inv X pins σ1 H1 { t0 with heap := g4 } := I1.landed nb fly4.1 ((up.trans up3).trans up4) os ag
              obtain ⟨o4, w4, at4, z4, dt4⟩ := fly4.there
              have S4 := I4.suite at4 dt4 na aL aF
              refine wpAny_mono ((hu a o4 cls d (X.pn ++ pins) z4 ⟨_, dt4⟩).run [] _ _ H1 _ S4 yes1) (fun f u6 sp => ?_) (fun _ _ z => z.elim)
              cases f with
              | ret u =>
                obtain ⟨v6, σ6, H6, S6, r6, q6⟩ := sp
                exact ⟨_, _, _, S6.unsuite okX, r6, q6⟩
              | next =>
                obtain ⟨σ6, H6, S6, q6⟩ := sp
                exact ⟨_, _, S6.unsuite okX, q6⟩
              | cont =>
                obtain ⟨σ6, H6, S6, q6⟩ := sp
                exact ⟨_, _, S6.unsuite okX, q6⟩
              | brk =>
                obtain ⟨σ6, H6, S6, q6⟩ := sp
                exact ⟨_, _, S6.unsuite okX, q6⟩
          | some nm =>
            cases i with
            | none => exact hn.elim
            | some i =>
              obtain ⟨hi, hl⟩ := hn
              refine codeAny_handlers_suite_as (HandSPX.lands_againZ fly3 fun g4 fly4 up4 => ?_)
              have I4 : Inv X pins σ1 H1 { t0 with heap := g4 } := I1.landed nb fly4.1 ((up.trans up3).trans up4) os ag
              obtain ⟨o4, w4, at4, z4, dt4⟩ := fly4.there
              have S4 := I4.suite at4 dt4 na aL aF
              refine store_ok (X := X.suite a ((a, o4) :: (X.pn ++ pins))) (v := .ref a) S4 hN hi (.inl hl) rfl (fun u5 S5 => ?_) (.inr hl)
              refine wpAny_mono ((hu a o4 cls d (X.pn ++ pins) z4 ⟨_, dt4⟩).run [] u5 _ H1 _ S5 yes1) (fun f u6 sp => ?_) (fun _ _ z => z.elim)
              have drop1 : ∀ {σ6 : L2.St} {H6 : Hp} {Q : Shared → Prop}, Inv (X.suite a ((a, o4) :: (X.pn ++ pins))) [] σ6 H6 u6 → (∀ u7, Inv X pins (σ6.set i none) H6 u7 → Q u7) →
                  wpAny (model X.prog X.w) X.A (do bindName X.env nm .none; unbindBehindTheSuite X.env nm p2) (fun _ u7 => Q u7) X.xe u6 := fun {σ6 H6 Q} S6 hq => gone_ok (S6.unsuite okX) hN hi hl hq
              cases f with
              | ret u =>
                obtain ⟨v6, σ6, H6, S6, r6, q6⟩ := sp
                exact drop1 S6 fun u7 J7 => ⟨_, _, _, J7, r6, q6⟩
              | next =>
                obtain ⟨σ6, H6, S6, q6⟩ := sp
                exact drop1 S6 fun u7 J7 => ⟨_, _, J7, q6⟩
              | cont =>
                obtain ⟨σ6, H6, S6, q6⟩ := sp
                exact drop1 S6 fun u7 J7 => ⟨_, _, J7, q6⟩
              | brk =>
                obtain ⟨σ6, H6, S6, q6⟩ := sp
                exact drop1 S6 fun u7 J7 => ⟨_, _, J7, q6⟩
    exact each hh wish
  refine wpAny_mono (B1.run [] s σ H D (I.toTry _) hw) (fun f u1 sp => ?_) fun _ _ he => he
  cases f with
  | ret u =>
    obtain ⟨v, σ1, H1, I1, r, q⟩ := sp
    exact ⟨v, σ1, H1, I1.ofTry okX, r, q⟩
  | cont =>
    obtain ⟨σ1, H1, I1, q⟩ := sp
    exact ⟨σ1, H1, I1.ofTry okX, q⟩
  | brk =>
    obtain ⟨σ1, H1, I1, q⟩ := sp
    exact ⟨σ1, H1, I1.ofTry okX, q⟩
  | next =>
    obtain ⟨σ1, H1, I1, q⟩ := sp
    exact wpAny_execs_nil ⟨σ1, H1, I1.ofTry okX, q⟩
end

/-! ### an own error's __init__ : Base.__init__(self, text), Base an own class without an __init__ -/
/-- what is known of Base, at C -/
structure BaseC (K : PySem.W.Frag) (mg : Str → Option Value) (x : Str) (C : Addr) : Prop where
  g : mg x = some (.ref C)
  sp : PySem.W.specialIn K (.ref C) "__getattribute__" = some (some (.builtin "type.__getattribute__"))
  rd : PySem.W.readsIn K C (.type "type") = true
  vI : PySem.W.findCls K (.ref C) (.type "type") "__init__" = some (.val (.builtin "ValueError.__init__"))
section
variable {X : Cx} {e : Expr} {es : List Expr} {ta : TA} {p1 p2 pos : Pos} {C : Addr} {x : Str}
theorem pe_base {pl : Sem Bool} (T : BaseC X.K X.mg x C) (hg : Gl X x) (ha : PA X (e :: es) ta) (hx : (x == ("__debug__" : Str)) = false := by decide)
    (hc : eval (.Call (.Attribute (.Name x p1) "__init__" p2) (e :: es) [] pos) X.env = (do
      let o ← eval (.Name x p1) X.env
      standAt p2.atName
      let (f, first) ← holding [o] (getMethod o "__init__" pl)
      callWith pos f first (backTo pos (starEach (e :: es) X.env)) (backToKw pos (keywordEach [] X.env))) := by rfl)
    (he : starEach (e :: es) X.env = (false, eval e X.env) :: starEach es X.env := by rfl) (hpl : (backTo pos (starEach es X.env)).any (·.1) = false := by rfl) :
    PE X (.Call (.Attribute (.Name x p1) "__init__" p2) (e :: es) [] pos) (tVeI X.K ta) := by
  constructor
  intro pins s σ H Q I h
  refine PySem.W.methodCall_KW (ld_glob I hg T.g ?_ hx) hc
  refine PySem.W.method_cls I.kIn T.sp (PySem.W.cls_value I.kIn T.rd T.vI (by decide +kernel) ?_)
  show wpAny _ _ (callWith pos (Value.builtin "ValueError.__init__") [] (backTo pos (starEach (e :: es) X.env)) []) _ _ _
  refine PyProof.Rows.callWith_method1 (thn (ha.run pos pins _ σ H _ (I.tok _) h) fun us u1 hu => ?_) he hpl
  obtain ⟨vs, H1, I1, r1, a, C1, ws, rfl, hl, T1, ea, q⟩ := hu
  cases r1 with
  | @cons _ u0 _ ur ra rw1 =>
    cases (show u0 = Value.ref a from ra)
    refine oinit_ok T1 I1 ea ?_ fun s' I2 => ⟨.non, H1, I2, rfl, q⟩
    rw [← Paired.length rw1]
    exact Nat.le_trans hl (by decide)
end
/-- the promise of such an __init__: the fields in the order of their making, the newest ahead -/
def spIni (C : Addr) (fn : List Str) (ok : List V → Prop) : Sp := fun vs H Q _ => ∃ (a : Addr) (ys : List V), vs = .ref a :: ys ∧ ys.length = fn.length ∧ ok ys ∧ H a = some (exo a C none) ∧
  ∀ d H2, (∀ b o, H b = some o → b ≠ a → H2 b = some o) → H d = none → d ≠ a → H2 a = some (exo a C (some d)) → H2 d = some (exd d (fn.zip ys.reverse)) → Q .non H2
section
variable {K : PySem.W.Frag} {C a : Addr} {te : TE} {f f1 f2 : Str} {x y : V} {H : Hp} {Q : VK} {ok : List V → Prop}
/-- self.f = x alone; te: the text -/
theorem ini1 (T : OexC K C) (hno : PySem.W.findIn K (.ref C) f = some none) (h : spIni C [f] ok [.ref a, x] H Q (fun _ _ _ => False)) (ht : ok [x] → ∀ σ : Sl, σ = [some (.ref a), some x] → ∀ H' (R : VK), (∀ z, R (.str z) H') → te σ H' R) :
    tSeq (tDrop (tVeI K (tCons (tVar 0) (tCons te tNil)))) (tOst K f (tVar 0) (tVar 1)) (ends Q) [some (.ref a), some x] H := by
  obtain ⟨a', ys, e, hl, ho, ha, k⟩ := h
  cases e
  refine ⟨.ref a, rfl, ht ho _ rfl H _ fun z => ⟨a, C, _, rfl, (by show 1 ≤ 1000; decide), T, ha, ?_⟩⟩
  refine ⟨x, rfl, .ref a, rfl, a, C, rfl, T, hno, .inl ⟨ha, fun dx hd ne => ?_⟩⟩
  refine k dx _ (fun b o hb nb => ?_) hd ne upd_same ?_
  · rw [upd_ne nb, upd_ne (ne_of_none hb hd)]
    exact hb
  · rw [upd_ne ne, upd_same]
    rfl
theorem ini2 (T : OexC K C) (hn1 : PySem.W.findIn K (.ref C) f1 = some none) (hn2 : PySem.W.findIn K (.ref C) f2 = some none) (h : spIni C [f2, f1] ok [.ref a, x, y] H Q (fun _ _ _ => False))
    (ht : ok [x, y] → ∀ σ : Sl, σ = [some (.ref a), some x, some y] → ∀ H' (R : VK), (∀ z, R (.str z) H') → te σ H' R) :
    tSeq (tDrop (tVeI K (tCons (tVar 0) (tCons te tNil)))) (tSeq (tOst K f1 (tVar 0) (tVar 1)) (tOst K f2 (tVar 0) (tVar 2))) (ends Q) [some (.ref a), some x, some y] H := by
  obtain ⟨a', ys, e, hl, ho, ha, k⟩ := h
  cases e
  refine ⟨.ref a, rfl, ht ho _ rfl H _ fun z => ⟨a, C, _, rfl, (by show 1 ≤ 1000; decide), T, ha, ?_⟩⟩
  refine ⟨x, rfl, .ref a, rfl, a, C, rfl, T, hn1, .inl ⟨ha, fun dx hd ne => ?_⟩⟩
  refine ⟨y, rfl, .ref a, rfl, a, C, rfl, T, hn2, .inr ⟨dx, _, upd_same, by rw [upd_ne ne, upd_same], (by show 1 ≤ 900; decide), ?_⟩⟩
  refine k dx _ (fun b o hb nb => ?_) hd ne ?_ upd_same
  · rw [upd_ne (ne_of_none hb hd), upd_ne nb, upd_ne (ne_of_none hb hd)]
    exact hb
  · rw [upd_ne ne.symm, upd_same]
theorem tfmt_int {σ : Sl} {i : Int} {n : Nat} {R : VK} (h : σ[n]? = some (some (.int i))) (hi : i.natAbs.log2 < 1920) (k : ∀ z, R (.str z) H) : tFmt (tVar n) σ H R := ⟨_, h, .inr ⟨i, rfl, hi, k _⟩⟩
theorem tfmt_str {σ : Sl} {i : Str} {n : Nat} {R : VK} (h : σ[n]? = some (some (.str i))) (hi : i.length < tooLong) (k : ∀ z, R (.str z) H) : tFmt (tVar n) σ H R := ⟨_, h, .inl ⟨i, rfl, long_ok hi, k _⟩⟩
end
section
variable {S : Type} {J : Jc S} {α β γ δ τ : Type} {ρ esc : Env} {σ : Sl} {G G' H : Hp} {L : Led} {T : Ends → Prop} {E : Ends}
/-! ### raise -/
theorem sv_raise {c : Nat} {ta : TA} {ma : MS S (List D)} {ok : List V → Prop} {okD : List D → Bool} {fin : β → Fin} (h : EvA J ta ρ ma) (w : Wk ρ esc) (hok : ∀ G ys ds, RpAll J.Z G ys ds → okD ds = true → ds.length = (J.Z.fn c).length ∧ (J.Z.fn c).length ≤ 1000 ∧ ok ys) :
    Sv J T esc (fun _ σ H => tMkO (J.Z.cl c) (spIni (J.Z.cl c) (J.Z.fn c) ok) [] ta σ H fun cls d H' => J.X cls d σ H') ρ (bnd ma fun ds => if okD ds = true then rse c ds.reverse else stk) fin := fun σ G s H L o E _ q =>
  h.runS o w q fun ds vs G1 s1 H1 e1 o1 r q1 => by
    by_cases hd : okD ds = true
    · rw [if_pos hd] at q1
      obtain ⟨hl, hm, hk⟩ := hok G1 vs ds r hd
      have hv : vs.length = (J.Z.fn c).length := r.length.trans hl
      refine ⟨by rw [hv]; exact hm, fun a ha => ⟨a, vs, by rw [List.append_nil], hv, hk, upd_same, fun d H2 k2 hdn ne e2 e3 => ⟨rfl, d, _, e2, e3, ?_, ?_⟩⟩⟩
      · rw [upd_ne ne] at hdn
        exact hdn
      · rw [upd_ne ne] at hdn
        have keep : ∀ b x, H1 b = some x → upd (del H2 a) d (.xd ((J.Z.fn c).zip vs.reverse)) b = some x := fun b x hb => by
          have nb : b ≠ a := ne_of_none hb ha
          rw [upd_ne (ne_of_none hb hdn), del_ne nb]
          exact k2 b x (by rw [upd_ne nb]; exact hb) nb
        have sm : Same G1 (upd G1 d (.xd ((J.Z.fn c).zip vs.reverse))) := same_new (o1.same.free hdn)
        have o2 : Ok J.Z (J.lay s1) ρ (upd G1 d (.xd ((J.Z.fn c).zip vs.reverse))) σ L (upd (del H2 a) d (.xd ((J.Z.fn c).zip vs.reverse))) := by
          refine ⟨o1.1.mono sm, ?_, o1.2.nd, fun p hp => ?_⟩
          · intro b x hb
            by_cases e : b = d
            · subst e
              rw [upd_same] at hb ⊢
              exact hb
            · rw [upd_ne e] at hb
              exact keep b x (o1.same _ _ hb)
          · obtain ⟨h1, h2⟩ := o1.2.own p hp
            refine ⟨keep _ _ h1, ?_⟩
            rw [upd_ne (ne_of_none h1 hdn)]
            exact h2
        obtain ⟨L', o3⟩ := o2.weak w
        refine q1 σ d vs.reverse _ _ L' sm o3 upd_same (by rw [List.length_reverse, hv]) ?_
        have rev : ∀ {xs : List V} {es : List D}, RpAll J.Z G1 xs es → RpAll J.Z G1 xs.reverse es.reverse := fun {xs es} rr => by
          induction rr using RpAll.rec (motive_1 := fun _ _ _ => True) with
          | nil => exact .nil
          | cons h1 h2 _ ih =>
            rw [List.reverse_cons, List.reverse_cons]
            exact ih.append (.one h1)
          | _ => trivial
        exact (rev r).mono sm
    · rw [if_neg hd] at q1
      exact q1.elim

/-! ### try -/
/-- what is known of an error that is caught -/
def xF (Z : Wo) (dx : Addr) (c : Nat) (fs : List D) (G : Hp) : Prop := ∃ vs, G dx = some (.xd ((Z.fn c).zip vs)) ∧ (Z.fn c).length = vs.length ∧ RpAll Z G vs fs
theorem xF.mono {Z : Wo} {dx : Addr} {c : Nat} {fs : List D} (h : xF Z dx c fs G) (s : Same G G') : xF Z dx c fs G' := by
  obtain ⟨vs, h1, h2, h3⟩ := h
  exact ⟨vs, s _ _ h1, h2, h3.mono s⟩
def fld (fn : List Str) (fs : List D) (f : Str) : Option D := (fn.zip fs).lookup f
theorem zip_look {Z : Wo} {f : Str} {d : D} : ∀ {fn : List Str} {vs : List V} {fs : List D}, RpAll Z G vs fs → (fn.zip fs).lookup f = some d → ∃ v, (fn.zip vs).lookup f = some v ∧ Rp Z G v d
  | [], _, _, _, e => by
    rw [List.zip_nil_left] at e
    cases e
  | _ :: _, _, _, .nil, e => by
    rw [List.zip_nil_right] at e
    cases e
  | n :: fn, v :: vs, g :: fs, .cons h r, e => by
    rw [List.zip_cons_cons, List.lookup_cons] at e ⊢
    cases hf : f == n with
    | true =>
      rw [hf] at e
      dsimp only at e ⊢
      cases e
      exact ⟨v, rfl, h⟩
    | false =>
      rw [hf] at e
      exact zip_look r e
theorem ev_xf {i : Nat} {a dx : Addr} {c : Nat} {fs : List D} {f : Str} (hi : ρ[i]? = some (.A a (xF J.Z dx c fs))) : Ev J (tXf a (.ref (J.Z.cl c)) (some dx) (J.Z.cl c) f (tVar i)) ρ (lft (fld (J.Z.fn c) fs f)) := fun σ G s H L o Q q =>
  Pst.lft q fun d hd q1 => by
    obtain ⟨h1, vs, h2, h3, h4⟩ := o.1.hand hi
    obtain ⟨v, h5, h6⟩ := zip_look h4 hd
    exact ⟨.ref a, h1, rfl, rfl, dx, _, v, rfl, o.same _ _ h2, h5, q1 v G H (Same.refl _) o h6⟩
/-- nothing is raised within -/
abbrev Jc.quiet (J : Jc S) : Jc S := { J with X := fun _ _ _ _ => False }
abbrev Jc.to (J : Jc S) (X : WX) : Jc S := { J with X := X }
def Rs.cat (r : Rs S β) (f : Nat → List D → S → Rs S β) : Rs S β := match r with
  | .ex c fs s => f c fs s
  | r => r
def pick (o : Option (List D → MS S β)) (c : Nat) (fs : List D) : MS S β := match o with
  | some h => nex (h fs)
  | none => rse c fs
def hsM (n : Nat) (hs : List (Nat × (List D → MS S β))) (c : Nat) (fs : List D) : MS S β := if c < n then pick (hs.lookup c) c fs else stk
def tryM (n : Nat) (m : MS S β) (hs : List (Nat × (List D → MS S β))) : MS S β := fun s => (m s).cat (hsM n hs)
/-- the clauses, one by one -/
inductive HsS (J : Jc S) (T : Ends → Prop) (esc escB : Env) (fin : β → Fin) : List Cls3 → List (Nat × (List D → MS S β)) → Prop
  | nil : HsS J T esc escB fin [] []
  | name {c i : Nat} {ts : Addr → Value → Option Addr → TS} {h : List D → MS S β} {l : List Cls3} {hs : List (Nat × (List D → MS S β))}
      (hu : ∀ a dx fs, Sv J.quiet T (escB.set i (.A a (xF J.Z dx c fs))) (ts a (.ref (J.Z.cl c)) (some dx)) (escB.set i (.A a (xF J.Z dx c fs))) (h fs) fin) (r : HsS J T esc escB fin l hs) : HsS J T esc escB fin ((.ref (J.Z.cl c), some i, ts) :: l) ((c, h) :: hs)
  | bare {c : Nat} {ts : Addr → Value → Option Addr → TS} {h : List D → MS S β} {l : List Cls3} {hs : List (Nat × (List D → MS S β))}
      (hu : ∀ a dx fs, Sv J.quiet T escB (ts a (.ref (J.Z.cl c)) (some dx)) escB (h fs) fin) (r : HsS J T esc escB fin l hs) : HsS J T esc escB fin ((.ref (J.Z.cl c), none, ts) :: l) ((c, h) :: hs)
theorem Cells.setA {Z : Wo} {a : Addr} {F : Hp → Prop} (r : ∀ G', Same G G' → F G') : ∀ {e : Env} {σ : Sl} {L : Led} (i : Nat), Cells Z G e σ L → ∃ L', List.Sublist L' L ∧ Cells Z G (e.set i (.A a F)) (σ.set i (some (.ref a))) L'
  | _, _, _, _, .nil => ⟨_, List.Sublist.refl _, .nil⟩
  | _, _, _, 0, .U c => ⟨_, List.Sublist.refl _, .A r c⟩
  | _, _, _, 0, .P q c => ⟨_, List.Sublist.refl _, .A r c⟩
  | _, _, _, 0, .O q c => ⟨_, List.sublist_cons_self _ _, .A r c⟩
  | _, _, _, 0, .A f c => ⟨_, List.Sublist.refl _, .A r c⟩
  | _, _, _, i + 1, .U c => by
    obtain ⟨L', s, c'⟩ := c.setA r i
    exact ⟨L', s, .U c'⟩
  | _, _, _, i + 1, .P q c => by
    obtain ⟨L', s, c'⟩ := c.setA r i
    exact ⟨L', s, .P q c'⟩
  | _, _, _, i + 1, .O q c => by
    obtain ⟨L', s, c'⟩ := c.setA r i
    exact ⟨_, s.cons₂ _, .O q c'⟩
  | _, _, _, i + 1, .A f c => by
    obtain ⟨L', s, c'⟩ := c.setA r i
    exact ⟨L', s, .A f c'⟩
theorem Ok.setA {B : Led} {i : Nat} {a : Addr} {F : Hp → Prop} (r : ∀ G', Same G G' → F G') (o : Ok J.Z B ρ G σ L H) : ∃ L', Ok J.Z B (ρ.set i (.A a F)) G (σ.set i (some (.ref a))) L' H := by
  obtain ⟨L', s, c'⟩ := o.1.setA (a := a) r i
  exact ⟨L', c', o.2.sub (List.Sublist.append s (List.Sublist.refl _))⟩
/-- the ends of a clause: what it hands back; other ends with its name let go -/
theorem Fo.gone {s : S} {i : Option Nat} {d : D} (h : Fo J G E s (.rt d)) : Fo J.quiet G (gone E i) s (.rt d) := by
  cases i <;> exact h
theorem sv_try {K : PySem.W.Frag} {n : Nat} {tb : WX → TS} {l : List Cls3} {hs : List (Nat × (List D → MS S D))} {m : MS S D} {escB : Env} (hT : ∀ E i, T E → T (gone E i)) (hx : ∀ c c', c < n → c' < n → PySem.W.exmOne K (.ref (J.Z.cl c)) (.ref (J.Z.cl c')) = some (decide (c = c')))
    (hn : ∀ p ∈ hs, p.1 < n) (we : Wk escB esc) (hb : ∀ X, Sv (J.to X) T escB (tb X) ρ m Fin.rt) (hh : HsS J T esc escB Fin.rt l hs) : Sv J T esc (fun E σ H => tb (wHs K J.X E l) E σ H) ρ (tryM n m hs) Fin.rt := fun σ G s H L o E ht q => by
  refine hb (wHs K J.X E l) σ G s H L o E ht ?_
  have q1 : Pss J esc G E Fin.rt ((m s).cat (hsM n hs)) := q
  cases e : m s with
  | stuck =>
    rw [e] at q1
    exact q1
  | ok d s' =>
    rw [e] at q1
    exact q1
  | ex c fs s' =>
    rw [e] at q1
    have q2 : Pss J esc G E Fin.rt (hsM n hs c fs s') := q1
    unfold hsM at q2
    by_cases hc : c < n
    · rw [if_pos hc] at q2
      intro σ1 dx vs G1 H1 L1 sm o1 hd hl hr
      have known : xF J.Z dx c fs G1 := ⟨vs, hd, hl, hr⟩
      have ran : ∀ {h : List D → MS S D} {i : Option Nat}, Pss J esc G E Fin.rt (pick (some h) c fs s') → ∀ esc', Pss J.quiet esc' G1 (gone E i) Fin.rt (h fs s') := fun {h i} q3 esc' => by
        have q4 : Pss J esc G E Fin.rt (nex (h fs) s') := q3
        unfold nex at q4
        cases e3 : h fs s' with
        | stuck => rw [e3] at q4; exact q4
        | ex _ _ _ => rw [e3] at q4; exact q4.elim
        | ok d s2 => rw [e3] at q4; exact Fo.gone (Fo.mono sm q4)
      have each : ∀ {l' : List Cls3} {hs' : List (Nat × (List D → MS S D))}, HsS J T esc escB Fin.rt l' hs' → (∀ p ∈ hs', p.1 < n) → Pss J esc G E Fin.rt (pick (hs'.lookup c) c fs s') → wHs K J.X E l' (.ref (J.Z.cl c)) (some dx) σ1 H1 := by
        intro l' hs' hk
        induction hk with
        | nil =>
          intro _ q3
          obtain ⟨L2, o2⟩ := o1.weak we
          exact q3 σ1 dx vs G1 H1 L2 sm o2 hd hl hr
        | @name c' i ts h l2 hs2 hu r ih =>
          intro hn2 q3
          have hc' : c' < n := hn2 (c', h) (by simp)
          refine ⟨_, hx c c' hc hc', fun hb a ha => ?_, fun hb => ?_⟩
          · have ec : c = c' := of_decide_eq_true hb
            subst ec
            rw [List.lookup_cons_self] at q3
            obtain ⟨L2, o2⟩ := o1.setA (i := i) (a := a) (F := xF J.Z dx c fs) fun G' s' => xF.mono known s'
            exact hu a dx fs _ G1 s' H1 L2 o2 _ (hT E (some i) ht) (ran q3 _)
          · have ec : c ≠ c' := of_decide_eq_false hb
            rw [List.lookup_cons, beq_false_of_ne ec] at q3
            exact ih (fun p hp => hn2 p (by simp [hp])) q3
        | @bare c' ts h l2 hs2 hu r ih =>
          intro hn2 q3
          have hc' : c' < n := hn2 (c', h) (by simp)
          refine ⟨_, hx c c' hc hc', fun hb a ha => ?_, fun hb => ?_⟩
          · have ec : c = c' := of_decide_eq_true hb
            subst ec
            rw [List.lookup_cons_self] at q3
            exact hu a dx fs _ G1 s' H1 L1 o1 _ (hT E none ht) (ran q3 _)
          · have ec : c ≠ c' := of_decide_eq_false hb
            rw [List.lookup_cons, beq_false_of_ne ec] at q3
            exact ih (fun p hp => hn2 p (by simp [hp])) q3
      exact each hh hn q2
    · rw [if_neg hc] at q2
      exact q2.elim
theorem ta_gone : ∀ E i, Ta E → Ta (gone E i) := fun _ _ _ => trivial
theorem tl_gone : ∀ E i, Tl E → Tl (gone E i) := fun E i h => by
  cases i with
  | none => exact h
  | some i => exact fun σ H q => h (σ.set i none) H q
end
end Dm

set_option Elab.async false
set_option linter.all false
set_option maxRecDepth 100000
set_option maxHeartbeats 2000000
namespace Dm
open PySem PySem.Spec PyProof.Rows L2

/-! ### the hand: what is drawn from -/
structure Hd where
  pos : Int
  rest : Int
  total : Int
def hHO (c : Addr) (h : Hd) : HO := .lst [.ref c, .int h.pos, .int h.rest, .int h.total]
def hF (c : Addr) (cells : List Int) (G : Hp) : Prop := G c = some (.lst (cells.map V.int))
/-- the hand stands at p, its cells at c -/
def HandJ (J : Jc Hd) (p c : Addr) : Prop := ∃ L1 L2, ∀ h, J.lay h = L1 ++ (p, hHO c h) :: L2
theorem HandJ.add {J : Jc Hd} {p c q : Addr} {xs : List V} (h : HandJ J p c) : HandJ (J.add q xs) p c := by
  obtain ⟨L1, L2, e⟩ := h
  exact ⟨(q, .lst xs) :: L1, L2, fun hd => by
    show (q, HO.lst xs) :: J.lay hd = _
    rw [e]
    rfl⟩
theorem HandJ.to {J : Jc Hd} {p c : Addr} {X : WX} (h : HandJ J p c) : HandJ (J.to X) p c := h
theorem rp_ints {Z : Wo} {G : Hp} : ∀ ns : List Int, RpAll Z G (ns.map V.int) (ns.map D.int)
  | [] => .nil
  | n :: ns => .cons (.int n) (rp_ints ns)
def spD (Z : Wo) (m : List Int → List D → MS Hd D) : Sp := fun vs H Q E => ∃ (p c : Addr) (cells : List Int) (L0 : Led) (G : Hp) (h : Hd) (vs' : List V) (ds : List D), vs = .ref p :: vs' ∧ hF c cells G ∧ Wd G ((p, hHO c h) :: L0) H ∧ RpAll Z G vs' ds ∧
  EndP Z (fun h => (p, hHO c h) :: L0) G Q E (m cells ds h)
theorem spD_len {Z : Wo} {m : List Int → List D → MS Hd D} {n : Nat} (hm : ∀ cs ds, ds.length + 1 ≠ n → m cs ds = stk) {vs : List V} {H : Hp} {Q : VK} {E : XK} (h : spD Z m vs H Q E) : vs.length = n := by
  obtain ⟨p, c, cells, L0, G, hd, vs', ds, rfl, hf, w, r, e⟩ := h
  by_cases hl : ds.length + 1 = n
  · rw [List.length_cons, r.length, hl]
  · rw [hm cells ds hl] at e
    exact e.elim
section
variable {J : Jc Hd} {ρ esc : Env} {σ : Sl} {G G' H : Hp} {L : Led} {p c : Addr} {cells : List Int} {i : Nat}
theorem ev_callD {m : List Int → List D → MS Hd D} {dvs : List V} {dds : List D} {ta : TA} {ma : MS Hd (List D)} (hJ : HandJ J p c) (hi : ρ[i]? = some (.A p (hF c cells))) (h : EvA J ta ρ ma) (hd : ∀ G, RpAll J.Z G dvs dds := by intro _; repeat constructor) :
    Ev J (tCallSD (spD J.Z m) dvs (WE J.X) (tCons (tVar i) ta)) ρ (bnd ma fun ds => m cells (ds ++ dds)) := fun σ G s H L o Q q => by
  obtain ⟨L1, L2, el⟩ := hJ
  refine ⟨.ref p, (o.1.hand hi).1, h.run o q fun ds xs G1 s1 H1 e1 o1 r q1 => ?_⟩
  have pm : ∀ h, ((p, hHO c h) :: (L ++ (L1 ++ L2))).Perm (L ++ J.lay h) := fun h => by
    rw [el h]
    have := (List.perm_middle (a := (p, hHO c h)) (l₁ := L ++ L1) (l₂ := L2)).symm
    rw [List.append_assoc, List.append_assoc] at this
    exact this
  refine ⟨p, c, cells, L ++ (L1 ++ L2), G1, s1, xs ++ dvs, ds ++ dds, rfl, (o1.1.hand hi).2, o1.2.perm (pm s1), RpAll.append r (hd G1), ?_⟩
  cases e : m cells (ds ++ dds) s1 with
  | stuck =>
    rw [e] at q1
    exact q1
  | ex k fs s2 =>
    rw [e] at q1
    exact fun dx vs G' H' sm w a b rr => q1 dx vs G' H' sm ⟨o1.1.mono sm, w.perm (pm s2).symm⟩ a b rr
  | ok d s2 =>
    rw [e] at q1
    exact fun v G' H' sm w rr => q1 v G' H' sm ⟨o1.1.mono sm, w.perm (pm s2).symm⟩ rr
theorem hand_at {s : Hd} (hJ : HandJ J p c) (o : Ok J.Z (J.lay s) ρ G σ L H) : H p = some (hHO c s) := by
  obtain ⟨L1, L2, el⟩ := hJ
  exact (o.2.own (p, hHO c s) (by rw [el]; simp)).1
/-- hand[0], hand[1] .. -/
def hget (cells : List Int) (k : Nat) : MS Hd D := fun h => match k with
  | 0 => .ok (.lst (cells.map D.int)) h
  | 1 => .ok (.int h.pos) h
  | 2 => .ok (.int h.rest) h
  | 3 => .ok (.int h.total) h
  | _ => .stuck
theorem ev_hget {K : PySem.W.Frag} (k : Nat) (hJ : HandJ J p c) (hi : ρ[i]? = some (.A p (hF c cells))) (hk : k < 4 := by decide) : Ev J (tOp (rIx K) (tVar i) (tC (.int (k : Int)))) ρ (hget cells k) := fun σ G s H L o Q q => by
  have hp := hand_at hJ o
  obtain ⟨h1, h2⟩ := o.1.hand hi
  match k, hk with
  | 0, _ => exact ⟨.ref p, h1, .inl ⟨p, _, 0, .ref c, rfl, rfl, sq_l hp, rfl, q _ G H (Same.refl _) o (.lst h2 (rp_ints cells))⟩⟩
  | 1, _ => exact ⟨.ref p, h1, .inl ⟨p, _, 1, .int s.pos, rfl, rfl, sq_l hp, rfl, q _ G H (Same.refl _) o (.int _)⟩⟩
  | 2, _ => exact ⟨.ref p, h1, .inl ⟨p, _, 2, .int s.rest, rfl, rfl, sq_l hp, rfl, q _ G H (Same.refl _) o (.int _)⟩⟩
  | 3, _ => exact ⟨.ref p, h1, .inl ⟨p, _, 3, .int s.total, rfl, rfl, sq_l hp, rfl, q _ G H (Same.refl _) o (.int _)⟩⟩
def hput (k : Nat) (d : D) : MS Hd Unit := fun h => match k, d with
  | 1, .int i => .ok () { h with pos := i }
  | 2, .int i => .ok () { h with rest := i }
  | 3, .int i => .ok () { h with total := i }
  | _, _ => .stuck
theorem hand_put {s s' : Hd} {k : Nat} {z : Int} {v : V} (hJ : HandJ J p c) (o : Ok J.Z (J.lay s) ρ G σ L H) (e : hput k (.int z) s = .ok () s') (hv : v = .int z) : ∃ xs, H p = some (.lst xs) ∧ ixN xs.length (k : Int) = some k ∧ Ok J.Z (J.lay s') ρ G σ L (upd H p (.lst (xs.set k v))) := by
  have hp := hand_at hJ o
  have hJ' := hJ
  obtain ⟨L1, L2, el⟩ := hJ'
  subst hv
  have main : ∀ ys : List V, hHO c s' = .lst ys → Ok J.Z (J.lay s') ρ G σ L (upd H p (.lst ys)) := fun ys hy => by
    refine ⟨o.1, ?_⟩
    have w := o.2
    rw [el s, ← List.append_assoc] at w
    rw [el s', ← List.append_assoc, hy]
    exact w.put
  match k, e with
  | 1, e =>
    cases e
    exact ⟨_, hp, rfl, main _ rfl⟩
  | 2, e =>
    cases e
    exact ⟨_, hp, rfl, main _ rfl⟩
  | 3, e =>
    cases e
    exact ⟨_, hp, rfl, main _ rfl⟩
theorem sv_hput {te : TE} {m : MS Hd D} (k : Nat) (hJ : HandJ J p c) (hi : ρ[i]? = some (.A p (hF c cells))) (h : Ev J te ρ m) (w : Wk ρ esc) : Sv J Ta esc (tAsg te (gSub (tVar i) (tC (.int (k : Int))) rSetL)) ρ (bnd m fun d => hput k d) (fun _ => .nx ρ) := fun σ G s H L o E _ q =>
  h.runS o w q fun d v G1 s1 H1 e1 o1 r q1 => by
    refine ⟨.ref p, (o1.1.hand hi).1, ?_⟩
    cases d with
    | int z =>
      cases e : hput k (.int z) s1 with
      | stuck =>
        rw [e] at q1
        exact q1.elim
      | ex _ _ _ =>
        unfold hput at e
        split at e <;> cases e
      | ok u s2 =>
        rw [e] at q1
        obtain ⟨xs, h1, h2, h3⟩ := hand_put hJ o1 e (rX.int (J := J) (ρ := ρ) (σ := σ) (.inl r))
        exact ⟨p, xs, k, k, rfl, rfl, h1, h2, q1 σ G1 _ L (Same.refl _) h3⟩
    | _ =>
      exfalso
      unfold Pss hput at q1
      match k, q1 with
      | 0, q1 => exact q1
      | 1, q1 => exact q1
      | 2, q1 => exact q1
      | 3, q1 => exact q1
      | k + 4, q1 => exact q1
end
/-- a def's body keeps its promise, the hand ahead -/
theorem bodyD_ok {J : Jc Hd} {esc ρ : Env} {σ : Sl} {G H : Hp} {L : Led} {t : TS} {m : MS Hd D} {Q : VK} {X : XK} {s : Hd} (sv : Sv J Tl esc t ρ m Fin.rt) (o : Ok J.Z (J.lay s) ρ G σ L H) (hX : ∀ cls d σ H, X cls d H → J.X cls d σ H) (e : EndP J.Z J.lay G Q X (m s)) : t (ends Q) σ H := body_ok sv o hX e
theorem cells_hand {Z : Wo} {G : Hp} {N : List Str} {p c : Addr} {cells : List Int} {vs : List V} {ds : List D} {n : Nat} (hf : hF c cells G) (r : RpAll Z G vs ds) (h : N.length = ds.length + 1 + n) : Cells Z G (.A p (hF c cells) :: startE ds n) (L2.start N (.ref p :: vs)) [] := by
  unfold startE L2.start
  have e : N.length - (V.ref p :: vs).length = n := by
    rw [List.length_cons, r.length, h]
    omega
  rw [e]
  exact .A (fun G' s => s _ _ hf) (cells_more (cells_none n) r)

/-! ### the hand is made -/
def spHand (K : PySem.W.Frag) : Sp := fun vs H Q _ => ∃ (a : Addr) (ns : List Int), vs = [.ref a] ∧ SqL K H a (ns.map V.int) ∧ ns.length ≤ 63 ∧
  ∀ p c H' tot, c ≠ p → H' p = some (hHO c ⟨0, 0, tot⟩) → H' c = some (.lst ((ns.map fun n => if n < 0 then -n else n).map V.int)) → Q (.ref p) H'
def spLaw (K : PySem.W.Frag) : Sp := fun vs H Q _ => ∃ (a : Addr) (ns : List Int), vs = [.ref a] ∧ SqL K H a (ns.map V.int) ∧ ns.length ≤ 63 ∧ ∀ H', Q (.bl true) H'
/-- the law: the hand first, then what m says of it -/
theorem law_ok {K : PySem.W.Frag} {Z : Wo} {X : WX} {t : TS} {n i : Nat} {H : Hp} {vs : List V} {Q : VK} {E : XK} {N : List Str} {m : List Int → MS Hd D} (h : spLaw K vs H Q E) (hN : N.length = n + 1) (hi : i < n + 1)
    (sv : ∀ p c cells, Sv ⟨Z, fun h => [(p, hHO c h)], X⟩ Tl (List.replicate (n + 1) .U) t ((List.replicate (n + 1) .U).set i (.A p (hF c cells))) (m cells) Fin.rt)
    (hm : ∀ cells tot, cells.length ≤ 63 → ∃ s, m cells ⟨0, 0, tot⟩ = .ok (.bl true) s) :
    tSeq (tAsg (tCallSD (spHand K) [] (WE X) (tCons (tVar 0) tNil)) (gName i)) t (ends Q) (L2.start N vs) H := by
  obtain ⟨a, ns, rfl, hs, hl, q⟩ := h
  have es : L2.start N [.ref a] = some (.ref a) :: List.replicate n none := by
    unfold L2.start
    rw [hN]
    rfl
  rw [es]
  refine ⟨.ref a, rfl, a, ns, rfl, hs, hl, fun p c H' tot ne h1 h2 => ?_⟩
  obtain ⟨s, hm'⟩ := hm (ns.map fun n => if n < 0 then -n else n) tot (by rw [List.length_map]; exact hl)
  show t (ends Q) ((some (.ref a) :: List.replicate n none).set i (some (.ref p))) H'
  have base : Cells Z (upd (fun _ => none) c (.lst ((ns.map fun n => if n < 0 then -n else n).map V.int))) (List.replicate (n + 1) .U) (some (.ref a) :: List.replicate n none) [] := .U (cells_none n)
  obtain ⟨L', sb, c1⟩ := base.setA (a := p) (F := hF c (ns.map fun n => if n < 0 then -n else n)) (fun G' s => s _ _ upd_same) i
  have eL : L' = [] := List.sublist_nil.mp sb
  subst eL
  refine body_ok (J := ⟨Z, fun h => [(p, hHO c h)], X⟩) (s := ⟨0, 0, tot⟩) (G := upd (fun _ => none) c (.lst ((ns.map fun n => if n < 0 then -n else n).map V.int))) (L := []) (X := fun _ _ _ => False) (sv p c _) ⟨c1, ?_, ?_, ?_⟩ (fun _ _ _ _ h => h.elim) ?_
  · intro b x hb
    by_cases e : b = c
    · subst e
      rw [upd_same] at hb
      cases hb
      exact h2
    · rw [upd_ne e] at hb
      cases hb
  · simp
  · intro q hq
    have e : q = (p, hHO c ⟨0, 0, tot⟩) := by simpa using hq
    subst e
    exact ⟨h1, by rw [upd_ne ne.symm]⟩
  · show EndP Z _ _ Q _ (m _ _)
    rw [hm']
    intro v G' H2 _ _ r
    cases r
    exact q H2

/-! ### calls with a keyword: the parameters behind the last written one have their defaults -/
section
variable {K : PySem.W.Frag} {x qual : Str} {params : Arguments} {body : List Stmt} {scope : Scope} {dvs : List V} {f : Addr} {fd : FuncData} {ps : List Str}
theorem kbind1 (F : FunD K x qual params body scope dvs [] f fd) (n : Nat) (ks : List Str) (g : {α : Type} → List α → List α → List α → List α) (hd : dvs ≠ [])
    (hrel : ∀ {vs ds zs : List V} {us its ws : List Value}, Vals vs us → Vals ds its → Vals zs ws → Vals (g vs ds zs) (g us its ws))
    (h : ∀ (q : Addr) (kV doc pm : Value) (an : Option Addr) (cdv ct : Value) (us its ws : List Value), us.length = n → its.length = dvs.length → ws.length = ks.length →
      ∃ k, bindArgs (PySem.W.fnOf x qual params body scope (.ref q) kV doc pm an cdv ct) ⟨us, ks.zip ws⟩ = seqItems? (.ref q) >>= k ∧ k (some its.toArray) = pure (ps.zip (g us its ws))) :
    ∃ its : List Value, KBn K fd ps n ks (fun us ws => g us its ws) (fun vs zs => g vs dvs zs) := by
  obtain ⟨oc, od, dV, kV, doc, pm, an, cdv, ct, osl, rfl, lk, hcd, hD, hK⟩ := F.ex
  rcases hD with ⟨e, _⟩ | ⟨_, q, o, its, m, rfl, l1, o1, r1⟩
  · exact (hd e).elim
  · refine ⟨its, fun s us ws X a b => ?_, fun ra rb => hrel ra r1 rb⟩
    obtain ⟨k, e1, e2⟩ := h q kV doc pm an cdv ct us its ws a r1.length.symm b
    refine BindsTo.of_looks fun M => ?_
    rw [e1]
    exact looks_items X l1 o1 (.of_pure e2)
end
section
variable {S : Type} {J : Jc S} {ρ esc : Env}
/-- f(a, .., k = b): gD tells the data of the parameters -/
theorem ev_callN {n k : Nat} {X : XK} {m : (S : Type) → List D → MS S D} {gV : List V → List V → List V} {gD : List D → List D → List D} {ta tk : TA} {ma mk : MS S (List D)} (h : EvA J ta ρ ma) (hk : EvA J tk ρ mk) (hX : ∀ cls d σ H, J.X cls d σ H → X cls d H)
    (hg : ∀ G vs ds zs es, RpAll J.Z G vs ds → RpAll J.Z G zs es → ds.length = n → es.length = k → RpAll J.Z G (gV vs zs) (gD ds es)) :
    Ev J (tCallN n k (spM J.Z m) gV X ta tk) ρ (bnd ma fun ds => bnd mk fun es => if ds.length = n ∧ es.length = k then m S (gD ds es) else stk) := fun σ G s H L o Q q =>
  h.run o q fun ds xs G1 s1 H1 e1 o1 r q1 => hk.run o1 q1 fun es zs G2 s2 H2 e2 o2 rz q2 => by
    by_cases hl : ds.length = n ∧ es.length = k
    · rw [if_pos hl] at q2
      have r2 := RpAll.mono e2 r
      refine ⟨r2.length.trans hl.1, RpAll.length rz |>.trans hl.2, S, fun s => L ++ J.lay s, G2, s2, gD ds es, o2.2, hg G2 xs ds zs es r2 rz hl.1 hl.2, ?_⟩
      cases e : m S (gD ds es) s2 with
      | stuck =>
        rw [e] at q2
        exact q2
      | ex c fs s3 =>
        rw [e] at q2
        exact fun dx vs G' H' sm w a b rr => hX _ _ _ _ (q2 dx vs G' H' sm ⟨o2.1.mono sm, w⟩ a b rr)
      | ok d s3 =>
        rw [e] at q2
        exact fun v G' H' sm w rr => q2 v G' H' sm ⟨o2.1.mono sm, w⟩ rr
    · rw [if_neg hl] at q2
      exact q2.elim
end
end Dm

set_option Elab.async false
set_option linter.all false
set_option maxRecDepth 100000
set_option maxHeartbeats 2000000
/-! enumerate of a tuple, of a list or a tuple -/
namespace PySem
open AutoSeq1 (wpAny_loadPart')
abbrev titO (l : Addr) : Obj := { cls := .type "tuple_iterator", data := .fields #[.ref l, .int 0 0] }
abbrev enO (i : Addr) : Obj := { cls := .type "enumerate", data := .fields #[.none, .bool false, .ref i, rawInt 0, .none, .none] }
theorem meets_enT (l : Addr) (its : Array Value) (n : Nat) (dc : Option Addr) (sl : Array (Option Value)) :
    Meets (Builtin.«enumerate.__new__» ⟨[.type "enumerate", .ref l], []⟩) (fun _ R s => s.heap.get? l = some { cls := .type "tuple", dict := dc, data := .seq its n, slots := sl } ∧
      R (.ok (.ret (.ref (s.heap.push (titO l)).objs.size))) { s with heap := (s.heap.push (titO l)).push (enO s.heap.objs.size) }) :=
  .of_wp fun prog w A R s hyp => by
    obtain ⟨hp, gs, dr, tk, os⟩ := s
    obtain ⟨hl, fin⟩ := hyp
    have hsub := sub_enumerate
    have isT : Heap.IsTuple (Shared.heap ⟨hp, gs, dr, tk, os⟩) l its := ⟨_, hl, rfl, n, rfl⟩
    wp_walk using wpAny_loadPart' hl
    refine wpAny_stack_any fun st => wpAny_pure ?_
    split
    · rename_i c _ _ _ _ _
      cases (c == Value.type "enumerate") <;>
      · wp_walk using wpAny_loadPart' hl, wpAny_pyIter_tuple isT
        exact ⟨_, rfl, fin⟩
    · wp_walk using wpAny_loadPart' hl, wpAny_pyIter_tuple isT
      exact ⟨_, rfl, fin⟩
section
variable {prog : Program} {w : World} {A : Around} {E : Value → Shared → Prop} {s : Shared}
theorem call_enT {l : Addr} {its : Array Value} {Q : Value → Shared → Prop} (hT : s.heap.IsTuple l its)
    (k : ∀ g, IsEnum g (s.heap.objs.size + 1) s.heap.objs.size 0 .none → g.IsTupleIter s.heap.objs.size l 0 → (∀ b o, s.heap.get? b = some o → g.get? b = some o) → Q (.ref (s.heap.objs.size + 1)) { s with heap := g }) :
    wpAny (model prog w) A (call (.type "enumerate") [.ref l]) Q E s := by
  obtain ⟨⟨c, dc, dt, sl⟩, hl, hc, n, hd⟩ := hT
  cases (show c = .type "tuple" from hc)
  cases (show dt = .seq its n from hd)
  refine callType_new F.called_enumerate (by decide) (F.typeCall_enumerate_1 _) (F.newCall_enumerate_1 _) (fun o => F.args_object_init_2 o _) F.entry_enumerate_new (meets_enT l its n dc sl) ⟨hl, ?_⟩
  have z1 : (s.heap.push (titO l)).objs.size = s.heap.objs.size + 1 := Heap.size_push ..
  show _ ∧ _
  rw [z1]
  have e1 : IsEnum ((s.heap.push (titO l)).push (enO s.heap.objs.size)) (s.heap.objs.size + 1) s.heap.objs.size 0 .none := by
    have q := Heap.get?_push_size (s.heap.push (titO l)) (o := enO s.heap.objs.size) rfl
    rw [z1] at q
    exact q
  exact ⟨⟨_, e1, rfl⟩, k _ e1 ⟨_, Heap.get?_push_of_some _ (Heap.get?_push_size _ rfl), rfl, rfl⟩ fun b o x => Heap.get?_push_of_some _ (Heap.get?_push_of_some _ x)⟩
end
end PySem
namespace Dm
open PySem PySem.Spec PyProof.Rows L2
/-- the tuple at a, each item in a new pair -/
def Iet (K : PySem.W.Frag) (a : Addr) : It where
  go := fun i H => ∃ (xs : List V) (x : V), SqT K H a xs ∧ xs[i]? = some x
  yld := fun i H v H' => ∃ q x, v = .ref q ∧ H q = none ∧ H' = upd H q (.tup [.int (i : Nat), x]) ∧ ∀ xs, SqT K H a xs → xs[i]? = some x
  stop := fun i H => ∃ xs : List V, SqT K H a xs ∧ xs.length = i
theorem turn_et {P : Program} {w : World} {K : PySem.W.Frag} {elts : List Expr} {kk : Nat} {tpos : Pos} (a e it : Addr) :
    Turn P w K (.Tuple elts kk tpos) (Iet K a) [e, it] e (fun i h => (∃ old, IsEnum h e it ((i : Nat) : Int) old) ∧ h.IsTupleIter it a i ∧ e ≠ it ∧ a ≠ it ∧ e ≠ a) where
  mem := by simp
  obj := fun i h st b hb => by
    obtain ⟨⟨old, he⟩, ⟨o, ho, hc, hd⟩, _⟩ := st
    have two : b = e ∨ b = it := by simpa using hb
    rcases two with rfl | rfl
    · exact ⟨_, he, fun v q => nomatch q⟩
    · refine ⟨o, ho, fun v q => ?_⟩
      rw [hd] at q
      cases q
  keep := fun i h h' st k => by
    obtain ⟨⟨old, he⟩, hi, n1, n2⟩ := st
    exact ⟨⟨old, k e (by simp) _ he⟩, hi.at fun o q => k it (by simp) o q, n1, n2⟩
  item := by
    intro X hP hw hK hc i pins s σ H E I hf st hg
    subst hP hw hK
    obtain ⟨⟨old, he⟩, hit, n1, n2, n3⟩ := st
    obtain ⟨xs, x, hq, hx⟩ := hg
    obtain ⟨its, rv, p, hz⟩ := I.tuple hq
    obtain ⟨u, hu, ru⟩ := rv.get hx
    have tp : s.heap.IsTuple a its.toArray := p
    have lt_e : e < s.heap.objs.size := Heap.lt_size he
    have lt_i : it < s.heap.objs.size := by
      obtain ⟨_, q, _⟩ := hit
      exact Heap.lt_size q
    have hlt : i < its.toArray.size := by
      have := (List.getElem?_eq_some_iff.mp hu).1
      simpa using this
    have hA : X.A.in1.handled = none := I.ok.hd hc
    refine wpAny_pyNext_enum_itemD (Draws.tuple hA it a n2 its.toArray) he ⟨hit, tp⟩ hlt n1 (by simp [n1, n3]) fun y g tk hy ho sg hT hsz keep => ?_
    have ey : y = u := by
      have h2 : its.toArray[i]? = some u := by simpa using hu
      exact Option.some.inj (hy.symm.trans h2)
    subst ey
    refine ⟨_, rfl, wpAny_letOwnedTupleGo_enum (s := { s with heap := g, toks := tk + 1 }) ho fun g2 he2 sb => ?_⟩
    have hT2 : g2.get? s.heap.objs.size = some { cls := .type "tuple", data := .seq #[.int i tk, y] } := (sb.2 _ (Nat.ne_of_gt lt_e)).trans hT
    have pair : ObjOk X.prog X.w (upd H s.heap.objs.size (.tup [.int (i : Nat), x])) g2 s.heap.objs.size (.tup [.int (i : Nat), x]) := by
      refine ⟨by show 2 ≤ sizeLine; decide, [.int i tk, y], .cons ⟨_, rfl⟩ (.cons ru .nil), ?_⟩
      exact ⟨_, hT2, rfl, _, rfl⟩
    have I1 : Inv X pins σ (upd H s.heap.objs.size (.tup [.int (i : Nat), x])) { s with heap := g2, toks := tk + 1 } := by
      refine I.turnedNew (ch := [e, it]) (fun b ob hb q => ?_) hf (Nat.le_refl _) pair
      have be : b ≠ e := fun z => hb (by simp [z])
      have bi : b ≠ it := fun z => hb (by simp [z])
      exact (sb.2 b be).trans (keep b ob be bi q)
    refine ⟨.ref s.heap.objs.size, _, I1, rfl, ⟨_, x, rfl, I.hok.fresh (Nat.le_refl _), rfl, fun ys hy => by rw [I.tuple_inj hy hq]; exact hx⟩, ⟨⟨y, ?_⟩, sg.1.at fun o q => (sb.2 it (Ne.symm n1)).trans q, n1, n2, n3⟩, fun b hb => ?_⟩
    · have up : ((i + 1 : Nat) : Int) = (i : Int) + 1 := by omega
      rw [up]
      exact he2
    · have two : b = e ∨ b = it := by simpa using hb
      have lt_b : b < s.heap.objs.size := by
        rcases two with rfl | rfl
        · exact lt_e
        · exact lt_i
      rw [upd_ne (Nat.ne_of_lt lt_b)]
      exact (hf b hb).1
  done := by
    intro X hP hw hK hc i pins s σ H E I hf st hg
    subst hP hw hK
    obtain ⟨⟨old, he⟩, hit, n1, n2, n3⟩ := st
    obtain ⟨xs, hq, hx⟩ := hg
    obtain ⟨its, rv, p, hz⟩ := I.tuple hq
    have tp : s.heap.IsTuple a its.toArray := p
    obtain ⟨f0, f1, f2, f3, f4, f5⟩ := hf it (by simp)
    have sz : its.toArray.size = i := by
      rw [List.size_toArray, ← rv.length, hx]
    have hA : X.A.in1.handled = none := I.ok.hd hc
    refine wpAny_pyNext_enum_endD (Draws.tuple hA it a n2 its.toArray) he ⟨by rw [sz]; exact hit, tp⟩ fun g eb => ⟨rfl, ?_⟩
    exact I.turned (t' := s.toks) (fun b o hb q => eb b o hb q) f0 f1 f3 f4 f5
  self := fun A i s Q E st h => by
    obtain ⟨⟨_, he⟩, _⟩ := st
    exact wpAny_pyIter_enum he h
/-- enumerate(e): a list or a tuple -/
def iEn (K : PySem.W.Frag) (ta : TA) : TI := fun σ H R => ta σ H fun vs H1 => ∃ a, vs = [.ref a] ∧ (((∃ xs, SqL K H1 a xs) ∧ R (Ite K a) H1) ∨ ((∃ xs, SqT K H1 a xs) ∧ R (Iet K a) H1))
theorem pi_en {X : Cx} {e : Expr} {ta : TA} {p pos tpos : Pos} {elts : List Expr} {kk : Nat} (hg : Gl X "enumerate") (hm : X.mg "enumerate" = none) (ha : PA X [e] ta) (hs : starEach [e] X.env = [(false, eval e X.env)] := by rfl) :
    PI X (.Tuple elts kk tpos) (.Call (.Name "enumerate" p) [e] [] pos) (iEn X.K ta) := by
  constructor
  intro pins s σ H R I h
  refine Call_ (ld_blt I hg hm boot_enumerate (PyProof.Rows.callWith_type1 (thn (ha.run pos pins s σ H _ I h) fun us s1 hw => ?_) hs rfl))
  obtain ⟨vs, H1, I1, r1, a, rfl, q⟩ := hw
  cases r1 with
  | cons r rr =>
    cases rr
    cases r
    have fin : ∀ {J : It} {tn : Nat → Heap → Prop} {g : Heap} (T : Turn X.prog X.w X.K (.Tuple elts kk tpos) J [s1.heap.objs.size + 1, s1.heap.objs.size] (s1.heap.objs.size + 1) tn) (st : tn 0 g) (hk : ∀ b o, s1.heap.get? b = some o → g.get? b = some o) (q : R J H1),
        PIE X pins σ (.Tuple elts kk tpos) R (.ref (s1.heap.objs.size + 1)) { s1 with heap := g } := fun T st hk q => by
      refine ⟨_, _, _, _, H1, rfl, I1.kept (t' := s1.toks) hk, T, st, fun b hb => ?_, q⟩
      have two : b = s1.heap.objs.size + 1 ∨ b = s1.heap.objs.size := by simpa using hb
      have hle : s1.heap.objs.size ≤ b := by
        rcases two with z | z
        · rw [z]
          exact Nat.le_succ _
        · rw [z]
          exact Nat.le_refl _
      exact I1.fpOk hle (I1.hok.fresh hle)
    rcases q with ⟨⟨xs, hq⟩, q⟩ | ⟨⟨xs, hq⟩, q⟩
    · obtain ⟨its, rv, p', hz⟩ := I1.list hq
      exact call_enumerate_list p'.isList fun g he hit hsz hk => wpAny_pyIter_enum he (fin (turn_enum a _ _) ⟨⟨.none, he⟩, hit, Nat.succ_ne_self _⟩ hk q)
    · obtain ⟨its, rv, p', hz⟩ := I1.tuple hq
      have tp : s1.heap.IsTuple a its.toArray := p'
      have la : a < s1.heap.objs.size := by
        obtain ⟨o, e1, _⟩ := tp
        exact Heap.lt_size e1
      exact call_enT tp fun g he hit hk => wpAny_pyIter_enum he (fin (turn_et a _ _) ⟨⟨.none, he⟩, hit, Nat.succ_ne_self _, Nat.ne_of_lt la, Nat.ne_of_gt (Nat.lt_succ_of_lt la)⟩ hk q)
section
variable {S : Type} {J : Jc S} {ρ : Env} {σ : Sl} {G H : Hp} {L : Led}
def numb : Nat → List D → List D
  | _, [] => []
  | n, d :: ds => .tup [.int (n : Int), d] :: numb (n + 1) ds
theorem numb_len : ∀ (n : Nat) (ds : List D), (numb n ds).length = ds.length
  | _, [] => rfl
  | n, _ :: ds => congrArg Nat.succ (numb_len (n + 1) ds)
theorem numb_at : ∀ (n : Nat) (ds : List D) (i : Nat) (d : D), ds[i]? = some d → (numb n ds)[i]? = some (.tup [.int ((n + i : Nat) : Int), d])
  | _, [], _, _, h => by simp at h
  | n, _ :: ds, 0, d, h => by
    simp at h
    subst h
    rfl
  | n, _ :: ds, i + 1, d, h => by
    have := numb_at (n + 1) ds i d (by simpa using h)
    rw [show n + (i + 1) = n + 1 + i by omega]
    simpa [numb] using this
theorem wd_en {Z : Wo} {K : PySem.W.Frag} {a : Addr} {xs : List V} {ds : List D} (h : G a = some (.lst xs)) (r : RpAll Z G xs ds) : Walk (Ite K a) (numb 0 ds).length (fun H => Same G H) (YD Z G (numb 0 ds)) := by
  rw [numb_len, ← r.length]
  refine walk_enum.mono (fun H s => sq_l (s _ _ h)) fun i H x H' hi s y => ?_
  obtain ⟨q, u, v, e1, e2, e3, e4, e5⟩ := y
  cases e4
  obtain ⟨d, hd, rd⟩ := r.at e5
  refine ⟨_, numb_at 0 ds i d hd, .inr ⟨q, _, v, _, d, e1, e2, e3, rfl, ?_, rd⟩⟩
  rw [Nat.zero_add]
  exact .int _
theorem wd_et {Z : Wo} {K : PySem.W.Frag} {a : Addr} {xs : List V} {ds : List D} (h : G a = some (.tup xs)) (r : RpAll Z G xs ds) : Walk (Iet K a) (numb 0 ds).length (fun H => Same G H) (YD Z G (numb 0 ds)) := by
  rw [numb_len, ← r.length]
  refine ⟨fun i H hi s => ⟨xs, xs[i], sq_t (s _ _ h), by simp [hi]⟩, fun H s => ⟨xs, sq_t (s _ _ h), rfl⟩, fun i H x H' hi s y => ?_⟩
  obtain ⟨q, v, e1, e2, e3, e5⟩ := y
  obtain ⟨d, hd, rd⟩ := r.at (e5 xs (sq_t (s _ _ h)))
  refine ⟨_, numb_at 0 ds i d hd, .inr ⟨q, _, v, _, d, e1, e2, e3, rfl, ?_, rd⟩⟩
  rw [Nat.zero_add]
  exact .int _
theorem ei_en {K : PySem.W.Frag} {te : TE} {m : MS S D} (h : Ev J te ρ m) : EvI J (iEn K (tCons te tNil)) ρ (bnd m fun d => lft ((items d).map (numb 0))) := fun σ G s H L o R q =>
  h.runI o q fun d x G1 s1 H1 e1 o1 r q1 => PstI.lft q1 fun es e q2 => by
    cases e3 : items d with
    | none => rw [e3] at e; cases e
    | some ds =>
      rw [e3] at e
      cases e
      obtain ⟨p, xs, h1, r2, h2⟩ := Rp.items r e3
      subst h1
      refine ⟨p, rfl, ?_⟩
      rcases h2 with h2 | h2
      · exact .inl ⟨⟨xs, sq_l (o1.same _ _ h2)⟩, q2 _ G1 H1 (Same.refl _) o1 (wd_en h2 r2)⟩
      · exact .inr ⟨⟨xs, sq_t (o1.same _ _ h2)⟩, q2 _ G1 H1 (Same.refl _) o1 (wd_et h2 r2)⟩
end
end Dm

set_option Elab.async false
set_option linter.all false
set_option maxRecDepth 100000
set_option maxHeartbeats 2000000
namespace Dm
open PySem PySem.Spec PyProof.Rows L2
/-! what the generated texts want besides -/
theorem passN {X : Cx} {W : WX} (h : ∀ cls d σ H, W cls d σ H → False) (σ : Sl) : PassesAt (L2.CX X.prog X.w) X σ (WE W σ) := fun pins H s e s' _ q => by
  obtain ⟨_, _, _, _, _, _, _, _, _, _, _, _, z⟩ := q
  exact (h _ _ _ _ z).elim
theorem passF {X : Cx} : Passes (L2.CX X.prog X.w) X (fun _ _ _ => False) := fun pins σ H s e s' _ q => by
  obtain ⟨_, _, _, _, _, _, _, _, _, _, _, _, z⟩ := q
  exact z.elim
theorem passE {X : Cx} {E : XK} (tk : Takes X (fun cls d _ H => E cls d H)) : Passes (L2.CX X.prog X.w) X E := fun pins σ H s e s' => passAt tk σ pins H s e s'
section
variable {S : Type} {J : Jc S} {α β : Type} {ρ esc : Env} {σ : Sl} {G H : Hp} {L : Led}
theorem ev_notT {K : PySem.W.Frag} {te : TE} {m : MS S D} (h : EvX J te ρ m) : Ev J (tNotT K te) ρ (bnd m fun d => lft ((tru d).map fun b => .bl (!b))) := fun σ G s H L o Q q =>
  h.run o q fun d x G1 s1 H1 e1 o1 r q1 => Pst.lft q1 fun z hz q2 => by
    cases e : tru d with
    | none => rw [e] at hz; cases hz
    | some b =>
      rw [e] at hz
      cases hz
      exact ⟨b, tru_ok o1 r e, q2 _ _ _ (Same.refl _) o1 (.bl _)⟩
theorem ev_dnew : Ev J tDNewK ρ (ret (.dct [])) := fun σ G s H L o Q q p hp => by
  obtain ⟨sm, o'⟩ := o.lay (u := .dK []) hp
  exact q _ _ _ sm o' (.dct upd_same)
/-! ### new lists for own: a slice, two lists together, a list again and again -/
def lstOf : D → Option (List D)
  | .lst xs => some xs
  | _ => none
def oSlL (d : D) (lo hi : Option Int) : Option (List D) := (lstOf d).map fun xs => cut xs lo hi
theorem el_sl {K : PySem.W.Frag} {te : TE} {tl th : TO} {m : MS S D} {ml mh : MS S (Option Int)} (h : EvX J te ρ m) (hl : EvO J tl ρ ml) (hh : EvO J th ρ mh) : EvL J (tSl (rSl K) te tl th) ρ (bnd m fun d => bnd ml fun lo => bnd mh fun hi => lft (oSlL d lo hi)) := fun σ G s H L o Q q =>
  h.runL o q fun d x G1 s1 H1 e1 o1 rx q1 => hl.runL o1 q1 fun lo l' G2 s2 H2 e2 o2 rl q2 => hh.runL o2 q2 fun hi h' G3 s3 H3 e3 o3 rh q3 => PstL.lft q3 fun z hz q4 => by
    cases rl
    cases rh
    have rx3 : rX J ρ σ G3 x d := (rX.mono e3 (rX.mono e2 rx))
    cases d with
    | lst ds =>
      cases hz
      obtain ⟨a, xs, h1, h2, r⟩ := rX.lst o3 rx3
      exact .inl (.inl ⟨a, xs, h1, sq_l h2, fun p hp => q4 _ _ _ _ (Same.refl _) (o3.nw hp) (cut_rp r)⟩)
    | _ => cases hz
def oCatL (d e : D) : Option (List D) := match lstOf d, lstOf e with
  | some xs, some ys => if xs.length + ys.length < tooLong then some (xs ++ ys) else none
  | _, _ => none
theorem el_add {K : PySem.W.Frag} {ta tb : TE} {ma mb : MS S D} (ha : EvX J ta ρ ma) (hb : EvX J tb ρ mb) : EvL J (tOp (rAdd K) ta tb) ρ (bnd ma fun d => bnd mb fun e => lft (oCatL d e)) := fun σ G s H L o Q q =>
  ha.runL o q fun d x G1 s1 H1 e1 o1 rx q1 => hb.runL o1 q1 fun e y G2 s2 H2 e2 o2 ry q2 => PstL.lft q2 fun z hz q4 => by
    have rx3 : rX J ρ σ G2 x d := rX.mono e2 rx
    cases d with
    | lst xs =>
      cases e with
      | lst ys =>
        have hz : (if xs.length + ys.length < tooLong then some (xs ++ ys) else none) = some z := hz
        obtain ⟨hl, rfl⟩ := ite_some hz
        obtain ⟨a, vs, rfl, h1, r1⟩ := rX.lst o2 rx3
        obtain ⟨b, us, rfl, h2, r2⟩ := rX.lst o2 ry
        exact .inl (.inr ⟨a, b, vs, us, rfl, rfl, h1, h2, long_ok (by rw [r1.length, r2.length]; exact hl), fun p hp => q4 _ _ _ _ (Same.refl _) (o2.nw hp) (r1.append r2)⟩)
      | _ => cases hz
    | _ => cases hz
def oRepL (d e : D) : Option (List D) := match d, e with
  | .lst xs, .int k => if xs.length * k.toNat < tooLong ∧ -(2 ^ 63) ≤ k ∧ k < 2 ^ 63 then some (List.replicate k.toNat xs).flatten else none
  | _, _ => none
theorem el_mul {ta tb : TE} {ma mb : MS S D} (ha : EvX J ta ρ ma) (hb : EvX J tb ρ mb) : EvL J (tOp rMul ta tb) ρ (bnd ma fun d => bnd mb fun e => lft (oRepL d e)) := fun σ G s H L o Q q =>
  ha.runL o q fun d x G1 s1 H1 e1 o1 rx q1 => hb.runL o1 q1 fun e y G2 s2 H2 e2 o2 ry q2 => PstL.lft q2 fun z hz q4 => by
    have rx3 : rX J ρ σ G2 x d := rX.mono e2 rx
    cases d with
    | lst xs =>
      cases e with
      | int k =>
        have hz : (if xs.length * k.toNat < tooLong ∧ -(2 ^ 63) ≤ k ∧ k < 2 ^ 63 then some (List.replicate k.toNat xs).flatten else none) = some z := hz
        obtain ⟨hl, rfl⟩ := ite_some hz
        obtain ⟨a, vs, rfl, h1, r1⟩ := rX.lst o2 rx3
        exact .inr ⟨a, k, vs, rfl, rX.int ry, h1, hl.2.1, hl.2.2, long_ok (by rw [r1.length]; exact hl.1), fun p hp => q4 _ _ _ _ (Same.refl _) (o2.nw hp) (r1.rep k.toNat)⟩
      | _ => cases hz
    | _ => cases hz
/-- xs[a], xs[b] = (u, v) -/
def two (ds : List D) : Option (D × D) := match ds with
  | [a, b] => some (a, b)
  | _ => none
theorem set1_some {ds es : List D} {k d : D} (h : set1 ds k d = some es) : ∃ z j, k = .int z ∧ ixN ds.length z = some j ∧ es = ds.set j d := by
  cases k with
  | int z =>
    unfold set1 at h
    dsimp only at h
    cases e : ixN ds.length z with
    | none => rw [e] at h; cases h
    | some j =>
      rw [e] at h
      cases h
      exact ⟨z, j, rfl, e, rfl⟩
  | _ => cases h
theorem sv_swap {K : PySem.W.Frag} {i : Nat} {ds : List D} {ta : TA} {ti tj : TE} {m : MS S (List D)} {n1 n2 : MS S D} (hi : ρ[i]? = some (.O ds)) (h : EvA J ta ρ m) (hk : ∀ es, Ev J ti (ρ.set i (.O es)) n1) (hj : ∀ es, Ev J tj (ρ.set i (.O es)) n2) (w : Wk ρ esc) (w' : ∀ es, Wk (ρ.set i (.O es)) esc) (hs : ρ.set i (.O ds) = ρ := by rfl) :
    Sv J Ta esc (tAsg (tTup ta) (gTup K 2 (gCons (gSub (tVar i) ti rSetL) (gCons (gSub (tVar i) tj rSetL) gNil)))) ρ
      (bnd m fun us => bnd (lft (two us)) fun u => bnd n1 fun k1 => bnd (lft (set1 ds k1 u.1)) fun es => bnd n2 fun k2 => lft (set1 es k2 u.2)) (fun es => .nx (ρ.set i (.O es))) := fun σ G s H L o E _ q =>
  h.runS o w q fun us xs G1 s1 H1 e1 o1 r q1 => by
    match us, r, q1 with
    | [], _, q1 => exact q1.elim
    | [_], _, q1 => exact q1.elim
    | _ :: _ :: _ :: _, _, q1 => exact q1.elim
    | [a, b], r, q1 =>
      have q1 : Pss J esc G1 E (fun es => .nx (ρ.set i (.O es))) ((bnd n1 fun k1 => bnd (lft (set1 ds k1 a)) fun es => bnd n2 fun k2 => lft (set1 es k2 b)) s1) := q1
      cases r with
      | @cons v1 _ _ _ ra r2 =>
        cases r2 with
        | @cons v2 _ _ _ rb r3 =>
          cases r3
          refine ⟨by show 2 ≤ sizeLine; decide, fun p hp => ?_⟩
          obtain ⟨sm, o2⟩ := o1.lay (u := .tup [v1, v2]) hp
          have o2' : Ok J.Z (J.lay s1) (ρ.set i (.O ds)) (upd G1 p (.tup [v1, v2])) σ L (upd H1 p (.tup [v1, v2])) := by rw [hs]; exact o2
          obtain ⟨p1, xs1, a1, a2, a3, a4⟩ := o2.put hi
          refine ⟨p, _, rfl, sq_t upd_same, rfl, _, _, rfl, ?_⟩
          refine ⟨.ref p1, a1, (hk ds).runS o2' (w' _) (Pss.mono sm q1) fun k1 kv G3 s3 H3 e3 o3 rv q3 => ?_⟩
          have o3' : Ok J.Z (J.lay s3) ρ G3 σ L H3 := by rw [hs] at o3; exact o3
          cases f1 : set1 ds k1 a with
          | none => rw [f1] at q3; exact q3.elim
          | some es1 =>
            rw [f1] at q3
            obtain ⟨z1, j1, rfl, x1, rfl⟩ := set1_some f1
            obtain ⟨p3, xs3, b1, b2, b3, b4⟩ := o3'.put hi
            rw [a1] at b1
            cases b1
            cases rX.int (J := J) (ρ := ρ) (σ := σ) (.inl rv)
            obtain ⟨L4, o4⟩ := b4 (xs3.set j1 v1) (ds.set j1 a) (b3.set (ra.mono (sm.trans e3)) j1)
            refine ⟨p1, xs3, z1, j1, rfl, rfl, b2, by rw [b3.length]; exact x1, ?_⟩
            refine ⟨_, _, rfl, .ref p1, a1, (hj _).runS o4 (w' _) (show Pss J esc G3 E _ ((bnd n2 fun k2 => lft (set1 (ds.set j1 a) k2 b)) s3) from q3) fun k2 kv2 G5 s5 H5 e5 o5 rv5 q5 => ?_⟩
            have hi5 : (ρ.set i (.O (ds.set j1 a)))[i]? = some (.O (ds.set j1 a)) := by
              rw [List.getElem?_set_self]
              exact (List.getElem?_eq_some_iff.mp hi).1
            refine Pss.lft q5 fun es f2 q6 => ?_
            obtain ⟨z2, j2, rfl, x2, rfl⟩ := set1_some f2
            obtain ⟨p5, xs5, c1, c2, c3, c4⟩ := o5.put hi5
            rw [a1] at c1
            cases c1
            cases rX.int (J := J) (ρ := ρ) (σ := σ) (.inl rv5)
            obtain ⟨L6, o6⟩ := c4 (xs5.set j2 v2) ((ds.set j1 a).set j2 b) (c3.set (rb.mono ((sm.trans e3).trans e5)) j2)
            refine ⟨p1, xs5, z2, j2, rfl, rfl, c2, by rw [c3.length]; exact x2, rfl, ?_⟩
            refine q6 σ G5 _ L6 (Same.refl _) ?_
            rw [List.set_set] at o6
            exact o6
/-- Fr inside a loop's turn -/
theorem sv_seqFr {γ : Type} {T : Ends → Prop} {t u : TS} {m : MS S (Fr α)} {k : α → MS S (Fl β γ)} {e : α → Env} {e' : β → Env} {eb : γ → Env} (h1 : Sv J Ta esc t ρ m (Fr.fin e)) (h2 : ∀ a, Sv J T esc u (e a) (k a) (Fl.fin e' eb)) :
    Sv J T esc (tSeq t u) ρ (bnd m fun r => match r with | .nx a => k a | .rt d => ret (.rt d)) (Fl.fin e' eb) := fun σ G s H L o E hT q =>
  h1 σ G s H L o { E with nx := u E } trivial (Pss.bind q fun a s' q1 => by
    cases a with
    | nx a => exact fun σ2 G2 H2 L2 e2 o2 => h2 a σ2 G2 s' H2 L2 o2 E hT (Pss.mono e2 q1)
    | rt d => exact q1)
/-- an if that returns, in a suite that may return -/
theorem sv_ifRr {γ : Type} {T : Ends → Prop} {tt : TT} {tu tw tz : TS} {mt : MS S Bool} {m1 : MS S D} {m2 : MS S (Fr α)} {e : α → Env} (h : EvT J tt ρ mt) (w : Wk ρ esc) (h1 : Sv J Ta esc tu ρ m1 Fin.rt) (h2 : Sv J T esc (tSeq tw tz) ρ m2 (Fr.fin e)) :
    Sv J T esc (tSeq (tIfS tt tu tw) tz) ρ (bnd mt fun b => if b = true then bnd m1 (fun d => ret (Fr.rt d)) else m2) (Fr.fin e) := fun σ G s H L o E ht q =>
  h.runS o w q fun b c G1 s1 H1 e1 o1 hc q1 => by
    cases hc
    cases b with
    | true => exact h1 σ G1 s1 H1 L o1 { E with nx := tz E } trivial (Pss.bind (k := fun d => ret (Fr.rt d)) (m := m1) q1 fun a s' q2 => q2)
    | false => exact h2 σ G1 s1 H1 L o1 E ht q1
theorem sv_seqRr {T : Ends → Prop} {t u : TS} {m : MS S (Fr α)} {k : α → MS S (Fr β)} {e : α → Env} {e' : β → Env} (h1 : Sv J Ta esc t ρ m (Fr.fin e)) (h2 : ∀ a, Sv J T esc u (e a) (k a) (Fr.fin e')) :
    Sv J T esc (tSeq t u) ρ (bnd m fun r => match r with | .nx a => k a | .rt d => ret (.rt d)) (Fr.fin e') := fun σ G s H L o E hT q =>
  h1 σ G s H L o { E with nx := u E } trivial (Pss.bind q fun a s' q1 => by
    cases a with
    | nx a => exact fun σ2 G2 H2 L2 e2 o2 => h2 a σ2 G2 s' H2 L2 o2 E hT (Pss.mono e2 q1)
    | rt d => exact q1)
theorem ev_neg {te : TE} {m : MS S D} (h : Ev J te ρ m) : Ev J (tUn (rU fun i => .int (-i)) te) ρ (bnd m fun d => lft (oNeg d)) := fun σ G s H L o Q q =>
  h.run o q fun d x G1 s1 H1 e1 o1 r q1 => Pst.lft q1 fun z hz q2 => by
    cases d with
    | int i =>
      cases hz
      exact ⟨i, rX.int (J := J) (ρ := ρ) (σ := σ) (.inl r), q2 _ _ _ (Same.refl _) o1 (.int _)⟩
    | _ => cases hz
theorem wk_all : ∀ (ρ : Env), Wk ρ (List.replicate ρ.length .U)
  | [] => .nil
  | _ :: e => .drop (wk_all e)
theorem wkU {ρ : Env} {n : Nat} (h : ρ.length = n := by rfl) : Wk ρ (List.replicate n .U) := h ▸ wk_all ρ
/-! ### the message of an error -/
def fmtV : V → Prop
  | .int i => 0 ≤ i ∧ i < 10 ^ 18
  | .str x => x.length < 1000
  | _ => False
/-- b, but no kernel looks into it -/
theorem sld_ex (b : Bool) : ∃ c : Bool, c = b := ⟨b, rfl⟩
noncomputable def sld (b : Bool) : Bool := (sld_ex b).choose
theorem sld_eq (b : Bool) : sld b = b := (sld_ex b).choose_spec
noncomputable def fmtD : D → Bool
  | .int i => sld (decide (0 ≤ i ∧ i < 10 ^ 18))
  | .str x => decide (x.length < 1000)
  | _ => false
theorem fmt_of {Z : Wo} {v : V} {d : D} (r : Rp Z G v d) (h : fmtD d = true) : fmtV v := by
  cases r with
  | int i =>
    have h : sld (decide (0 ≤ i ∧ i < 10 ^ 18)) = true := h
    rw [sld_eq] at h
    exact (of_decide_eq_true h : 0 ≤ i ∧ i < 10 ^ 18)
  | str x =>
    have h : decide (x.length < 1000) = true := h
    exact (of_decide_eq_true h : x.length < 1000)
  | _ => exact Bool.noConfusion h
def Tx1 (σ : Sl) (te : TE) : Prop := ∀ (H : Hp) (R : VK), (∀ y : Str, y.length ≤ 1000 → R (.str y) H) → te σ H R
inductive JsOk (σ : Sl) : List TE → Prop
  | nil : JsOk σ []
  | cons {te : TE} {ts : List TE} : Tx1 σ te → JsOk σ ts → JsOk σ (te :: ts)
theorem tx_str {x : Str} (h : x.length ≤ 1000) : Tx1 σ (tC (.str x)) := fun H R k => k x h
theorem tx_fmt {n : Nat} {v : V} (h : σ[n]? = some (some v)) (hv : fmtV v) : Tx1 σ (tFmt (tVar n)) := fun H R k => by
  cases v with
  | int i =>
    have hv : 0 ≤ i ∧ i < 10 ^ 18 := hv
    refine ⟨_, h, .inr ⟨i, rfl, ?_, k _ (Nat.le_trans (PyProof.Rows.toString_length_le hv.1 (k := 18) (by decide) hv.2) (by decide))⟩⟩
    have : i.natAbs < 2 ^ 60 := by
      have := hv.2
      omega
    rcases Nat.eq_zero_or_pos i.natAbs with h0 | h0
    · rw [h0]
      decide
    · exact Nat.lt_trans ((Nat.log2_lt (by omega)).2 this) (by decide)
  | str x => exact ⟨_, h, .inl ⟨x, rfl, by rw [sizeLine_eq]; exact Nat.le_trans (Nat.le_of_lt hv) (by decide), k _ (Nat.le_of_lt hv)⟩⟩
  | _ => exact hv.elim
theorem js_ok : ∀ {ts : List TE} {acc : Str}, JsOk σ ts → acc.length + 1000 * ts.length ≤ 1000000 → ∀ {H : Hp} {k : Str → Hp → Prop}, (∀ out, k out H) → tJs ts acc σ H k
  | [], acc, _, _, H, k, h => h _
  | te :: ts, acc, .cons t r, l, H, k, h => t H _ fun y hy => by
    have e : (acc ++ y).length = acc.length + y.length := PySem.Str.length_append _ _
    rw [List.length_cons] at l
    exact ⟨y, rfl, by rw [e, sizeLine_eq]; omega, js_ok r (by rw [e]; omega) h⟩
/-! ### what follows a part that may jump, by name -/
def frD (k : α → MS S D) : Fr α → MS S D
  | .nx a => k a
  | .rt d => ret d
def frR (k : α → MS S (Fr β)) : Fr α → MS S (Fr β)
  | .nx a => k a
  | .rt d => ret (.rt d)
def frF {γ : Type} (k : α → MS S (Fl β γ)) : Fr α → MS S (Fl β γ)
  | .nx a => k a
  | .rt d => ret (.rt d)
def flF {γ : Type} (k : α → MS S (Fl β γ)) : Fl α γ → MS S (Fl β γ)
  | .nx a => k a
  | .rt d => ret (.rt d)
  | .bk b => ret (.bk b)
  | .ct b => ret (.ct b)
section
variable {T : Ends → Prop} {t u : TS} {γ : Type} {e : α → Env} {e' : β → Env} {eb : γ → Env}
theorem sv_frD {m : MS S (Fr α)} {k : α → MS S D} (h1 : Sv J Ta esc t ρ m (Fr.fin e)) (h2 : ∀ a, Sv J T esc u (e a) (k a) Fin.rt) : Sv J T esc (tSeq t u) ρ (bnd m (frD k)) Fin.rt := fun σ G s H L o E hT q =>
  h1 σ G s H L o { E with nx := u E } trivial (Pss.bind q fun a s' q1 => by
    cases a with
    | nx a => exact fun σ2 G2 H2 L2 e2 o2 => h2 a σ2 G2 s' H2 L2 o2 E hT (Pss.mono e2 q1)
    | rt d => exact q1)
theorem sv_frR {m : MS S (Fr α)} {k : α → MS S (Fr β)} (h1 : Sv J Ta esc t ρ m (Fr.fin e)) (h2 : ∀ a, Sv J T esc u (e a) (k a) (Fr.fin e')) : Sv J T esc (tSeq t u) ρ (bnd m (frR k)) (Fr.fin e') := fun σ G s H L o E hT q =>
  h1 σ G s H L o { E with nx := u E } trivial (Pss.bind q fun a s' q1 => by
    cases a with
    | nx a => exact fun σ2 G2 H2 L2 e2 o2 => h2 a σ2 G2 s' H2 L2 o2 E hT (Pss.mono e2 q1)
    | rt d => exact q1)
theorem sv_frF {m : MS S (Fr α)} {k : α → MS S (Fl β γ)} (h1 : Sv J Ta esc t ρ m (Fr.fin e)) (h2 : ∀ a, Sv J T esc u (e a) (k a) (Fl.fin e' eb)) : Sv J T esc (tSeq t u) ρ (bnd m (frF k)) (Fl.fin e' eb) := fun σ G s H L o E hT q =>
  h1 σ G s H L o { E with nx := u E } trivial (Pss.bind q fun a s' q1 => by
    cases a with
    | nx a => exact fun σ2 G2 H2 L2 e2 o2 => h2 a σ2 G2 s' H2 L2 o2 E hT (Pss.mono e2 q1)
    | rt d => exact q1)
theorem sv_flF {m : MS S (Fl α γ)} {k : α → MS S (Fl β γ)} (h1 : Sv J Ta esc t ρ m (Fl.fin e eb)) (h2 : ∀ a, Sv J T esc u (e a) (k a) (Fl.fin e' eb)) : Sv J T esc (tSeq t u) ρ (bnd m (flF k)) (Fl.fin e' eb) := fun σ G s H L o E hT q =>
  h1 σ G s H L o { E with nx := u E } trivial (Pss.bind q fun a s' q1 => by
    cases a with
    | nx a => exact fun σ2 G2 H2 L2 e2 o2 => h2 a σ2 G2 s' H2 L2 o2 E hT (Pss.mono e2 q1)
    | rt d => exact q1
    | bk b => exact q1
    | ct b => exact q1)
end
end
end Dm

set_option Elab.async false
set_option linter.all false
set_option maxRecDepth 100000
set_option maxHeartbeats 2000000
namespace Dm
open PySem PySem.Spec PyProof.Rows L2
/-! the rules whose readings name the kit, with the kit said -/
section
variable {X : Cx} {K : PySem.W.Frag} (h : X.K = K)
include h
theorem ix_seqK : IxR X (rIx K) := h ▸ ix_seq
theorem op_eqK (hu : X.A.units + 64 < cLine) : OpR X (compareOp .Eq) (rEqD K) := h ▸ op_eqD hu
theorem op_neK (hu : X.A.units + 64 < cLine) : OpR X (compareOp .NotEq) (rNeD K) := h ▸ op_neD hu
theorem op_inK : OpR X (compareOp .In) (rIn K false) := h ▸ op_in_seq
theorem op_ninK : OpR X (compareOp .NotIn) (rIn K true) := h ▸ op_notIn_seq
theorem op_addK : OpR X (binaryOp .Add) (rAdd K) := h ▸ op_addG
theorem sl_anyK : SlR X (rSl K) := h ▸ sl_any
theorem pi_sqK {tg l : Expr} {tl : TE} (hl : PE X l tl) : PI X tg l (iSq K tl) := h ▸ pi_sq hl
theorem pi_enK {e : Expr} {ta : TA} {p pos tpos : Pos} {elts : List Expr} {kk : Nat} (hg : Gl X "enumerate") (hm : X.mg "enumerate" = none) (ha : PA X [e] ta) (hs : starEach [e] X.env = [(false, eval e X.env)] := by rfl) :
    PI X (.Tuple elts kk tpos) (.Call (.Name "enumerate" p) [e] [] pos) (iEn K ta) := h ▸ pi_en hg hm ha hs
theorem call_lnK : CallR X (.builtin "len") (rLn K) := h ▸ call_ln
theorem call_isiK : CallR X (.builtin "isinstance") (rIsi K) := h ▸ call_isi
theorem call_isiTK : CallR X (.builtin "isinstance") (rIsiT K) := h ▸ call_isiT
theorem call_tupK : CallR X (.type "tuple") (rTp K) := h ▸ call_tuple_of
theorem call_lstK : CallR X (.type "list") (rLs K) := h ▸ call_list_of
theorem pe_notTK {a : Expr} {ta : TE} {pos : Pos} (ha : PE X a ta) : PE X (.UnaryOp .Not a pos) (tNotT K ta) := h ▸ pe_notT ha
theorem pt_truK {a : Expr} {ta : TE} (ha : PE X a ta) (he : ∀ whole, isTrue a X.env whole = (do let v ← whole; standAt a.pos; holding [v] (truthy v))) : PT X a (fun σ H Q => ta σ H fun x H' => ∃ k, TruV K x H' k ∧ Q k H') := h ▸ pt_truth ha he
theorem pg_tupK {pos : Pos} {es : List Expr} {k : Nat} {t : TGs} {n : Nat} (hc : X.calm = true) (ht : PGs X es t) (hn : (assignEach es X.env).length = n := by rfl) (hf : List.findIdx? (fun x => x.fst) (assignEach es X.env) = none := by rfl) : PG X (.Tuple es k pos) (gTup K n t) := h ▸ pg_tup hc ht hn hf
end
theorem sv_J {S : Type} {J J2 : Jc S} {β : Type} {T : Ends → Prop} {esc : Dm.Env} {t : TS} {ρ : Dm.Env} {m : MS S β} {fin : β → Dm.Fin} (h : J2 = J) (s : Sv J2 T esc t ρ m fin) : Sv J T esc t ρ m fin := h ▸ s
theorem wk_refl : ∀ (ρ : Dm.Env), Wk ρ ρ
  | [] => .nil
  | _ :: e => .keep (wk_refl e)
theorem sv_rho {S : Type} {J : Jc S} {β : Type} {T : Ends → Prop} {esc ρ ρ2 : Dm.Env} {t : TS} {m : MS S β} {fin : β → Dm.Fin} (h : ρ = ρ2) (s : Sv J T esc t ρ m fin) : Sv J T esc t ρ2 m fin := h ▸ s
/-! ### try, by name -/
def tTry (K : PySem.W.Frag) (tb : WX → TS) (Wo : WX) (l : List Cls3) : TS := fun E σ H => tb (wHs K Wo E l) E σ H
theorem ps_tryK {X : Cx} {K : PySem.W.Frag} {body : List Stmt} {k0 : ExceptHandler} {ks : List ExceptHandler} {l : List Cls3} {pos : Pos} {tb : WX → TS} {Wo : WX} (h : X.K = K) (hst : X.stack = X.env :: X.outer) (hfr : X.env.frame = some X.env.locals) (hN : X.N.Nodup) (tk : Takes X Wo)
    (hb : ∀ (W : WX) (pn : List (Addr × Obj)) (xe : Value → Shared → Prop), Takes (X.tr pn xe) W → PassesOwn (model X.prog X.w) X.A X.env xe → PSs (X.tr pn xe) body (tb W)) (hh : HdsA X (k0 :: ks) l) :
    PS X (.Try body (k0 :: ks) [] [] pos) (tTry K tb Wo l) := h ▸ ps_tryA hst hfr hN tk hb hh
theorem sv_tryK {S : Type} {J : Jc S} {T : Ends → Prop} {esc ρ : Dm.Env} {K : PySem.W.Frag} {n : Nat} {tb : WX → TS} {Wo : WX} {l : List Cls3} {hs : List (Nat × (List D → MS S D))} {m : MS S D} {escB : Dm.Env} (hT : ∀ E i, T E → T (gone E i)) (hx : ∀ c c', c < n → c' < n → PySem.W.exmOne K (.ref (J.Z.cl c)) (.ref (J.Z.cl c')) = some (decide (c = c')))
    (hb : ∀ X, Sv (J.to X) T escB (tb X) ρ m Dm.Fin.rt) (hh : HsS J T esc escB Dm.Fin.rt l hs) (hn : ∀ p ∈ hs, p.1 < n) (we : Wk escB esc) (hW : Wo = J.X := by rfl) : Sv J T esc (tTry K tb Wo l) ρ (tryM n m hs) Dm.Fin.rt := by
  subst hW
  exact sv_try hT hx hn we hb hh
end Dm

set_option Elab.async false
set_option linter.all false
set_option maxRecDepth 100000
set_option maxHeartbeats 2000000
namespace Dm
open PySem PySem.Spec PyProof.Rows L2
/-! ### the hand is made -/
def absZ (n : Int) : Int := if n < 0 then -n else n
theorem ints_of {Z : Wo} {G : Hp} : ∀ {vs : List V} (ns : List Int), RpAll Z G vs (ns.map D.int) → vs = ns.map V.int
  | _, [], .nil => rfl
  | _, n :: ns, .cons h r => by
    cases h
    rw [List.map_cons, ints_of ns r]
theorem ints_rp {Z : Wo} {G : Hp} : ∀ ns : List Int, RpAll Z G (ns.map V.int) (ns.map D.int)
  | [] => .nil
  | n :: ns => .cons (.int n) (ints_rp ns)
def sF (K : PySem.W.Frag) (a : Addr) (ns : List Int) (G : Hp) : Prop := SqL K G a (ns.map V.int)
section
variable {S : Type} {J : Jc S} {ρ : Dm.Env} {K : PySem.W.Frag} {a : Addr} {ns : List Int} {i : Nat}
theorem ev_lenA (hi : ρ[i]? = some (.A a (sF K a ns))) : Ev J (tCB (rLn K) (tCons (tVar i) tNil)) ρ (ret (.int ns.length)) := EvG.pure fun σ G s H L o Q q => by
  obtain ⟨h1, h2⟩ := Cells.hand o.1 hi
  refine ⟨_, h1, .inl ⟨_, _, rfl, .inl ⟨_, Same.seq o.same h2, rfl⟩, ?_⟩⟩
  rw [List.length_map]
  exact q _ G H (Same.refl _) o (.int _)
theorem ei_sqA (hi : ρ[i]? = some (.A a (sF K a ns))) : EvI J (iSq K (tVar i)) ρ (ret (ns.map D.int)) := fun σ G s H L o R q => by
  obtain ⟨h1, h2⟩ := Cells.hand o.1 hi
  refine ⟨_, h1, a, rfl, .inl ⟨⟨_, Same.seq o.same h2⟩, ?_⟩⟩
  refine q _ G H (Same.refl _) o ?_
  have l : (ns.map D.int).length = (ns.map V.int).length := by rw [List.length_map, List.length_map]
  rw [l]
  refine walk_list.mono (fun H s => Same.seq s h2) fun i H x H' hi s y => ?_
  obtain ⟨d, hd, rd⟩ := (ints_rp (Z := J.Z) (G := G) ns).at y.2
  exact ⟨d, hd, .inl ⟨y.1, rd⟩⟩
end
/-- what the loop does -/
def handBody (t : D) (st : D × List D) : MS Unit (D × List D) :=
  bnd (bnd (bnd (bnd (bnd (ret st.1) fun d => bnd (ret (.int 1021)) fun e => lft (oMul d e)) fun d => bnd (bnd (ret t) fun d => lft (oIntOf d)) fun e => lft (oAdd d e)) fun d => lft (oIntOf d)) fun d => bnd (ret (.int 2147483587)) fun e => lft (oMod d e)) fun v =>
    bnd (bnd (bnd (bnd (ret t) fun d => lft (oIntOf d)) fun d => lft (oAbs d)) fun d => lft (app1 st.2 d)) fun es => bnd (ret ()) fun _ => ret (v, es)
theorem log2_small {n : Nat} (h : n < 2 ^ 40) : n.log2 < 41 := by
  rcases Nat.eq_zero_or_pos n with h0 | h0
  · rw [h0]
    decide
  · exact Nat.lt_trans ((Nat.log2_lt (by omega)).2 h) (by decide)
theorem handBody_ok {n tot : Int} {ds : List D} (h0 : 0 ≤ tot) (h1 : tot < 2 ^ 40) (hl : ds.length < tooLong) : ∃ tot', 0 ≤ tot' ∧ tot' < 2 ^ 40 ∧ handBody (.int n) (.int tot, ds) () = .ok (.int tot', ds ++ [.int (absZ n)]) () := by
  refine ⟨(tot * 1021 + n).fmod 2147483587, Int.fmod_nonneg_of_pos _ (by decide), Int.lt_trans (Int.fmod_lt_of_pos _ (by decide)) (by decide), ?_⟩
  have hm : oMul (.int tot) (.int 1021) = some (.int (tot * 1021)) := by
    have q : tot.natAbs < 2 ^ 40 := by omega
    have q1 := log2_small q
    have q2 : (1021 : Int).natAbs.log2 < 11 := by decide
    show (if tot.natAbs.log2 + (1021 : Int).natAbs.log2 < 1000000 then some (D.int (tot * 1021)) else none) = _
    exact if_pos (by omega)
  have ha : app1 ds (.int (absZ n)) = some (ds ++ [.int (absZ n)]) := if_pos hl
  have hb : handBody (.int n) (.int tot, ds) = bnd (lft (app1 ds (.int (absZ n)))) fun es => ret (.int ((tot * 1021 + n).fmod 2147483587), es) := by
    unfold handBody
    simp only [bnd_ret, bnd_bnd, lft_some, hm]
    rfl
  rw [hb, ha]
  rfl
theorem handLoop_ok : ∀ (ns : List Int) {tot : Int} {ds : List D}, 0 ≤ tot → tot < 2 ^ 40 → ds.length + ns.length < tooLong → ∃ tot', forN un1 handBody (ns.map D.int) (.int tot, ds) () = .ok (.int tot', ds ++ (ns.map absZ).map D.int) ()
  | [], tot, ds, _, _, _ => ⟨tot, by rw [List.map_nil, List.map_nil, List.map_nil, List.append_nil]; rfl⟩
  | n :: ns, tot, ds, h0, h1, hl => by
    rw [List.length_cons] at hl
    obtain ⟨t1, a0, a1, e⟩ := handBody_ok (n := n) (ds := ds) h0 h1 (by omega)
    obtain ⟨t2, e2⟩ := handLoop_ok ns (tot := t1) (ds := ds ++ [.int (absZ n)]) a0 a1 (by rw [List.length_append, List.length_singleton]; omega)
    refine ⟨t2, ?_⟩
    show ((handBody (.int n) (.int tot, ds) ()).go fun b => forN un1 handBody (ns.map D.int) b) = _
    rw [e]
    show forN un1 handBody (ns.map D.int) (.int t1, ds ++ [.int (absZ n)]) () = _
    rw [e2, List.append_assoc]
    rfl
abbrev rInt1 : List V → Hp → VK → Prop := fun xs H Q => (∃ i, xs = [.int i] ∧ Q (.int i) H) ∨ ∃ k, xs = [.bl k] ∧ Q (.int (if k then 1 else 0)) H
abbrev rAbs1 : List V → Hp → VK → Prop := fun xs H Q => ∃ i, xs = [.int i] ∧ Q (.int (if i < 0 then -i else i)) H
abbrev rModN : R2 := rI (fun _ j => j ≠ 0) fun i j => .int (i.fmod j)
def tHandBody (K : PySem.W.Frag) : TS := tSeq (tAsg (tOp rModN (tCB rInt1 (tCons (tOp (rAdd K) (tOp rMul (tVar 1) (tC (.int 1021))) (tCB rInt1 (tCons (tVar 3) tNil))) tNil)) (tC (.int 2147483587))) (gName 1))
  (tSeq (tDrop (tBM K "list" rAppend (tVar 2) (tCons (tCB rAbs1 (tCons (tCB rInt1 (tCons (tVar 3) tNil)) tNil)) tNil))) tNext)
def tHand (K : PySem.W.Frag) (n : Int) : TS := tSeq (tAsg (tOp (rAdd K) (tCB (rLn K) (tCons (tVar 0) tNil)) (tC (.int n))) (gName 1)) (tSeq (tAsg (tLst tNil) (gName 2)) (tSeq (tFor (iSq K (tVar 0)) (gName 3) (tHandBody K))
  (tRet (tLst (tCons (tVar 2) (tCons (tC (.int 0)) (tCons (tC (.int 0)) (tCons (tVar 1) tNil))))))))
theorem hand_ok {K : PySem.W.Frag} {n : Int} {N : List Str} {Q : VK} {E : XK} {H : Hp} {vs : List V} (h : spHand K vs H Q E) (hn : 0 ≤ n ∧ n < 1000000) (hN : N.length = 4) : tHand K n (ends Q) (L2.start N vs) H := by
  obtain ⟨a, ns, rfl, hs, hl, k⟩ := h
  let Z : Wo := ⟨K, fun _ => 0, fun _ => []⟩
  let J : Jc Unit := ⟨Z, fun _ : Unit => [], fun _ _ _ _ => False⟩
  let c0 : Cell := .A a (sF K a ns)
  have s1 : Sv J Ta (List.replicate 4 .U) (tAsg (tOp (rAdd K) (tCB (rLn K) (tCons (tVar 0) tNil)) (tC (.int n))) (gName 1)) [c0, .U, .U, .U] (bnd (ret (.int ns.length)) fun d => bnd (ret (.int n)) fun e => lft (oAdd d e)) (fun x => .nx [c0, .P x, .U, .U]) :=
    sv_asg (ev_op o2_add (Ev.x (ev_lenA (i := 0) rfl)) (Ev.x ev_int)) wkU
  have s2 : ∀ x, Sv J Ta (List.replicate 4 .U) (tAsg (tLst tNil) (gName 2)) [c0, .P x, .U, .U] (bnd (ret []) fun ds => lft (mkL ds)) (fun ds => .nx [c0, .P x, .O ds, .U]) := fun x => sv_asgL (el_lst ea_nil) wkU (hi := Nat.le_of_ble_eq_true rfl)
  have s3 : ∀ x ds, Sv J Ta (List.replicate 4 .U) (tFor (iSq K (tVar 0)) (gName 3) (tHandBody K)) [c0, .P x, .O ds, .U] (bnd (ret (ns.map D.int)) fun ds' => forN un1 handBody ds' (x, ds)) (fun st => .nx [c0, .P st.1, .O st.2, .U]) := fun x ds =>
    sv_forN (e := fun (st : D × List D) => ([c0, .P st.1, .O st.2, .U] : Dm.Env)) (x, ds) (ei_sqA rfl) wkU (tg_name 3) fun t st =>
      sv_seq (e := fun (v : D) => ([c0, .P v, .O st.2, .P t] : Dm.Env)) (sv_asg (ev_op o2_mod (Ev.x (ev_b1 o1_int (Ev.x (ev_op o2_add (Ev.x (ev_op o2_mul (Ev.x (ev_var (i := 1) rfl)) (Ev.x ev_int))) (Ev.x (ev_b1 o1_int (Ev.x (ev_var (i := 3) rfl)))))))) (Ev.x ev_int)) wkU) fun v =>
      sv_seq (e := fun (es : List D) => ([c0, .P v, .O es, .P t] : Dm.Env)) (sv_app (i := 2) rfl (ev_b1 o1_abs (Ev.x (ev_b1 o1_int (Ev.x (ev_var (i := 3) rfl))))) wkU) fun es =>
      sv_to (g := fun _ => (v, es)) sv_next fun _ => Wk.keep (Wk.keep (Wk.keep (Wk.drop Wk.nil)))
  have start : Ok Z [] [c0, .U, .U, .U] H [some (.ref a), none, none, none] [] H := ⟨.A (fun G' s => Same.seq s hs) (.U (.U (.U .nil))), fun _ _ e => e, List.nodup_nil, fun p hp => nomatch hp⟩
  have es : L2.start N [.ref a] = [some (.ref a), none, none, none] := by
    unfold L2.start
    rw [hN]
    rfl
  rw [es]
  have lt : (63 : Int) < 2 ^ 39 := by decide
  obtain ⟨tot, e3⟩ := handLoop_ok ns (tot := (ns.length : Int) + n) (ds := []) (by omega) (by omega) (by rw [List.length_nil]; unfold tooLong; omega)
  refine s1 _ H () H [] start _ trivial ?_
  show ∀ σ G' H' L, _ → _ → _
  intro σ1 G1 H1 L1 sm1 o1
  refine s2 _ _ G1 () H1 L1 o1 _ trivial ?_
  show ∀ σ G' H' L, _ → _ → _
  intro σ2 G2 H2 L2 sm2 o2
  refine s3 _ _ _ G2 () H2 L2 o2 _ trivial ?_
  show Pss J _ G2 _ _ (forN un1 handBody (ns.map D.int) (.int ((ns.length : Int) + n), []) ())
  rw [e3]
  intro σ3 G3 H3 L3 sm3 o3
  obtain ⟨c3, w3⟩ := o3
  have c3 : Cells Z G3 [Cell.A a (sF K a ns), .P (.int tot), .O ([] ++ (ns.map absZ).map D.int), .U] σ3 L3 := c3
  cases c3 with
  | A f c =>
    cases c with
    | P r1 c =>
      cases r1
      cases c with
      | @O _ _ _ p xs _ r2 c =>
        cases c with
        | U c =>
          cases c
          have hx := ints_of (ns.map absZ) (vs := xs) (by simpa using r2)
          have hp : H3 p = some (.lst xs) := (w3.own (p, .lst xs) (by simp)).1
          refine ⟨_, rfl, _, rfl, (by show 4 ≤ sizeLine; decide), fun l hl' => ?_⟩
          have ne : p ≠ l := ne_of_none hp hl'
          refine k l p _ tot ne upd_same ?_
          rw [upd_ne ne, hp, hx]
          rfl
end Dm

set_option Elab.async false
set_option linter.all false
set_option maxRecDepth 100000
set_option maxHeartbeats 2000000
namespace Dm
open PySem PySem.Spec PyProof.Rows L2
/-! ### the written part: defs with defaults -/
section
variable {K : PySem.W.Frag} {x qual : Str} {params : Arguments} {body : List Stmt} {scope : Scope} {dvs : List V} {f : Addr} {fd : FuncData} {ps : List Str}
theorem bindD (F : FunD K x qual params body scope dvs [] f fd) (n j : Nat) (hd : dvs ≠ []) (hn : n + (dvs.length - j) = ps.length)
    (h : ∀ (q : Addr) (kV doc pm : Value) (an : Option Addr) (cdv ct : Value) (us its : List Value), us.length = n → its.length = dvs.length →
      ∃ k, bindArgs (PySem.W.fnOf x qual params body scope (.ref q) kV doc pm an cdv ct) ⟨us, []⟩ = seqItems? (.ref q) >>= k ∧ k (some its.toArray) = pure (ps.zip (us ++ its.drop j))) :
    ∃ ds : List Value, Vals (dvs.drop j) ds ∧ Binds K fd ps ds := by
  obtain ⟨oc, od, dV, kV, doc, pm, an, cdv, ct, osl, rfl, lk, hcd, hD, hK⟩ := F.ex
  rcases hD with ⟨e, _⟩ | ⟨_, q, o, its, m, rfl, l1, o1, r1⟩
  · exact (hd e).elim
  · have hl : its.length = dvs.length := r1.length.symm
    refine ⟨its.drop j, ?_, fun s us X hu => ?_⟩
    · clear h hn lk F
      have go : ∀ (j : Nat) {a : List V} {b : List Value}, Vals a b → Vals (a.drop j) (b.drop j) := by
        intro j
        induction j with
        | zero => intro a b h; exact h
        | succ j ih =>
          intro a b h
          cases h with
          | nil => exact .nil
          | cons h1 h2 => exact ih h2
      exact go j r1
    · have hun : us.length = n := by
        rw [List.length_append, List.length_drop, hl] at hu
        omega
      obtain ⟨k, e1, e2⟩ := h q kV doc pm an cdv ct us its hun hl
      refine BindsTo.of_looks fun M => ?_
      rw [e1]
      exact looks_items X l1 o1 (.of_pure e2)
theorem bindD0 (F : FunD K x qual params body scope dvs [] f fd) (hd : dvs ≠ []) 
    (h : ∀ (q : Addr) (kV doc pm : Value) (an : Option Addr) (cdv ct : Value) (us its : List Value), us.length = ps.length → its.length = dvs.length →
      ∃ k, bindArgs (PySem.W.fnOf x qual params body scope (.ref q) kV doc pm an cdv ct) ⟨us, []⟩ = seqItems? (.ref q) >>= k ∧ k (some its.toArray) = pure (ps.zip (us ++ its.drop dvs.length))) : Binds K fd ps [] := by
  obtain ⟨ds, r, b⟩ := bindD F ps.length dvs.length hd (by omega) h
  rw [List.drop_length] at r
  cases r
  exact b
end
theorem vals_append : ∀ {a b : List V} {us ws : List Value}, Vals a us → Vals b ws → Vals (a ++ b) (us ++ ws)
  | _, _, _, _, .nil, h => h
  | _, _, _, _, .cons h r, h2 => .cons h (vals_append r h2)
theorem exm_two {K : PySem.W.Frag} {S S2 : Addr} {b : Bool} (h1 : PySem.W.subIn K (.ref S2) (.type "BaseException") = some true) (h2 : PySem.W.isClsIn K S2 = true) (h3 : PySem.W.typeIn K (.ref S2) = some (.type "type")) (h4 : PySem.W.subIn K (.ref S) (.ref S2) = some b) :
    PySem.W.exmOne K (.ref S) (.ref S2) = some b := by
  have e1 : (PySem.W.subIn K (.ref S2) (.type "BaseException") == some true) = true := by rw [h1] <;> rfl
  have e2 : ((PySem.W.clsIn K S2).isSome && PySem.W.typeIn K (.ref S2) == some (.type "type")) = true := by
    have h2' : (PySem.W.clsIn K S2).isSome = true := h2
    rw [h2', h3] <;> rfl
  show (if (PySem.W.subIn K (.ref S2) (.type "BaseException") == some true) = true then (if ((PySem.W.clsIn K S2).isSome && PySem.W.typeIn K (.ref S2) == some (.type "type")) = true then PySem.W.subIn K (.ref S) (.ref S2) else none) else none) = some b
  rw [if_pos e1, if_pos e2]
  exact h4
theorem cx_no {P : Program} {w : World} {H : Hp} {s : Shared} {e : Value} {s' : Shared} (h : L2.CX P w [] H s (fun _ _ _ => False) e s') : False := by
  obtain ⟨_, _, _, _, _, _, _, _, _, _, _, _, z⟩ := h
  exact z
end Dm

set_option Elab.async false
set_option linter.all false
set_option maxRecDepth 100000
set_option maxHeartbeats 2000000
namespace Dm
open PySem PySem.Spec PyProof.Rows L2
/-! ### mathematics of mirrors -/
def Hok (cells : List Int) (s : Hd) : Prop := 0 ≤ s.pos ∧ s.pos ≤ cells.length ∧ 0 ≤ s.rest
/-- m ends well at every hand, with P -/
def Tk {α : Type} (cells : List Int) (m : MS Hd α) (P : α → Prop) : Prop := ∀ s, Hok cells s → ∃ a s', m s = .ok a s' ∧ Hok cells s' ∧ P a
section
variable {α β τ : Type} {cells : List Int} {m : MS Hd α} {P : α → Prop} {Q : β → Prop}
theorem tk_ret {a : α} (h : P a) : Tk cells (ret a) P := fun s hs => ⟨a, s, rfl, hs, h⟩
theorem tk_bnd {k : α → MS Hd β} (h : Tk cells m P) (hk : ∀ a, P a → Tk cells (k a) Q) : Tk cells (bnd m k) Q := fun s hs => by
  obtain ⟨a, s1, e, h1, p⟩ := h s hs
  obtain ⟨b, s2, e2, h2, q⟩ := hk a p s1 h1
  refine ⟨b, s2, ?_, h2, q⟩
  show (m s).go k = _
  rw [e]
  exact e2
theorem tk_mono {P' : α → Prop} (h : Tk cells m P) (w : ∀ a, P a → P' a) : Tk cells m P' := fun s hs => by
  obtain ⟨a, s1, e, h1, p⟩ := h s hs
  exact ⟨a, s1, e, h1, w a p⟩
theorem tk_nex (h : Tk cells m P) : Tk cells (nex m) P := fun s hs => by
  obtain ⟨a, s1, e, h1, p⟩ := h s hs
  refine ⟨a, s1, ?_, h1, p⟩
  unfold nex
  rw [e]
theorem tk_lft {o : Option α} {a : α} (e : o = some a) (h : P a) : Tk cells (lft o) P := by
  subst e
  exact tk_ret h
/-- a comprehension over the hand: no condition -/
theorem tk_lcAll {un : D → Option τ} {f : τ → MS Hd D} {P : D → Prop} : ∀ {ds : List D}, (∀ d ∈ ds, ∃ t, un d = some t ∧ Tk cells (f t) P) → Tk cells (lcM un (fun _ => ret true) f ds) (fun ys => ys.length = ds.length ∧ ∀ y ∈ ys, P y)
  | [], _ => tk_ret ⟨rfl, fun y hy => nomatch hy⟩
  | d :: ds, h => by
    obtain ⟨t, e, ht⟩ := h d (by simp)
    have ih := tk_lcAll (ds := ds) (fun d hd => h d (by simp [hd]))
    show Tk cells (bnd (lft (un d)) fun t => bnd (nex (ret true)) fun b => if b = true then bnd (nex (f t)) fun y => bnd (lcM un (fun _ => ret true) f ds) fun ys => ret (y :: ys) else lcM un (fun _ => ret true) f ds) _
    rw [e, lft_some, bnd_ret, nex_ret, bnd_ret, if_pos rfl]
    refine tk_bnd (tk_nex ht) fun y py => tk_bnd ih fun ys hys => tk_ret ⟨by simp [hys.1], fun z hz => ?_⟩
    rcases List.mem_cons.mp hz with e | e
    · rw [e]
      exact py
    · exact hys.2 z e
/-- .. with a condition: some of the items -/
theorem tk_lcSome {un : D → Option τ} {c : τ → MS Hd Bool} {f : τ → MS Hd D} {P : D → Prop} : ∀ {ds : List D}, (∀ d ∈ ds, ∃ t, un d = some t ∧ Tk cells (c t) (fun _ => True) ∧ Tk cells (f t) P) → Tk cells (lcM un c f ds) (fun ys => ys.length ≤ ds.length ∧ ∀ y ∈ ys, P y)
  | [], _ => tk_ret ⟨Nat.le_refl _, fun y hy => nomatch hy⟩
  | d :: ds, h => by
    obtain ⟨t, e, hc, ht⟩ := h d (by simp)
    have ih := tk_lcSome (ds := ds) (fun d hd => h d (by simp [hd]))
    show Tk cells (bnd (lft (un d)) fun t => bnd (nex (c t)) fun b => if b = true then bnd (nex (f t)) fun y => bnd (lcM un c f ds) fun ys => ret (y :: ys) else lcM un c f ds) _
    rw [e, lft_some, bnd_ret]
    refine tk_bnd (tk_nex hc) fun b _ => ?_
    cases b with
    | false =>
      rw [if_neg Bool.false_ne_true]
      exact tk_mono ih fun ys hys => ⟨Nat.le_succ_of_le hys.1, hys.2⟩
    | true =>
      rw [if_pos rfl]
      refine tk_bnd (tk_nex ht) fun y py => tk_bnd ih fun ys hys => tk_ret ⟨by simpa using hys.1, fun z hz => ?_⟩
      rcases List.mem_cons.mp hz with e | e
      · rw [e]
        exact py
      · exact hys.2 z e
end
/-- a comprehension without the hand -/
theorem lcM_ret {S τ : Type} {un : D → Option τ} {c : τ → MS S Bool} {f : τ → MS S D} {p : τ → Bool} {g : τ → D} : ∀ {ts : List τ} {ds : List D}, ds.map un = ts.map some → (∀ t ∈ ts, c t = ret (p t)) → (∀ t ∈ ts, p t = true → f t = ret (g t)) → lcM un c f ds = ret ((ts.filter p).map g)
  | [], [], _, _, _ => rfl
  | [], d :: ds, e, _, _ => by cases e
  | t :: ts, [], e, _, _ => by cases e
  | t :: ts, d :: ds, e, hc, hf => by
    rw [List.map_cons, List.map_cons] at e
    have e1 : un d = some t := (List.cons.inj e).1
    have e2 := (List.cons.inj e).2
    have ih := lcM_ret (c := c) (f := f) (p := p) (g := g) e2 (fun t ht => hc t (by simp [ht])) (fun t ht => hf t (by simp [ht]))
    show (bnd (lft (un d)) fun t => bnd (nex (c t)) fun b => if b = true then bnd (nex (f t)) fun y => bnd (lcM un c f ds) fun ys => ret (y :: ys) else lcM un c f ds) = _
    rw [e1, lft_some, bnd_ret, hc t (by simp), nex_ret, bnd_ret, ih]
    cases hp : p t with
    | false =>
      rw [if_neg Bool.false_ne_true, List.filter_cons_of_neg (by rw [hp]; exact Bool.false_ne_true)]
    | true =>
      rw [if_pos rfl, hf t (by simp) hp, nex_ret, bnd_ret, bnd_ret, List.filter_cons_of_pos hp]
      rfl
theorem eqD_int (i j : Int) : eqD (.int i) (.int j) = some (decide (i = j)) := by
  unfold eqD
  by_cases h : i = j
  · subst h
    simp [toPy, SeqAt.shaped, PyData.eqv, PyData.canLay0, PyData.depth]
  · simp [toPy, SeqAt.shaped, PyData.eqv, h, PyData.canLay0, PyData.depth]
theorem mul_small {i j : Int} (hi : i.natAbs < 2 ^ 40) (hj : j.natAbs < 2 ^ 40) : oMul (.int i) (.int j) = some (.int (i * j)) := by
  have q1 := log2_small hi
  have q2 := log2_small hj
  show (if i.natAbs.log2 + j.natAbs.log2 < 1000000 then some (D.int (i * j)) else none) = _
  exact if_pos (by omega)
theorem mod_pos {i j : Int} (h : 0 < j) : oMod (.int i) (.int j) = some (.int (i.fmod j)) := by
  show (if decide (j ≠ 0) = true then some (D.int (i.fmod j)) else none) = _
  exact if_pos (by simp; omega)
theorem div_pos {i j : Int} (h : 0 < j) (hj : j.natAbs < 2 ^ 40) : oDiv (.int i) (.int j) = some (.int (i / j)) := by
  have q := log2_small hj
  show (if decide (0 < j ∧ j.natAbs.log2 < 9000) = true then some (D.int (i / j)) else none) = _
  exact if_pos (by simp; omega)
theorem fmod_in {i j : Int} (h : 0 < j) : 0 ≤ i.fmod j ∧ i.fmod j < j := ⟨Int.fmod_nonneg_of_pos _ h, Int.fmod_lt_of_pos _ h⟩
section
variable {β : Type} {cells : List Int} (k : D → MS Hd β) (u : Unit → MS Hd β) (h : Hd)
theorem at_get0 : bnd (hget cells 0) k h = k (.lst (cells.map D.int)) h := rfl
theorem at_get1 : bnd (hget cells 1) k h = k (.int h.pos) h := rfl
theorem at_get2 : bnd (hget cells 2) k h = k (.int h.rest) h := rfl
theorem at_get3 : bnd (hget cells 3) k h = k (.int h.total) h := rfl
theorem at_put1 (i : Int) : bnd (hput 1 (.int i)) u h = u () { h with pos := i } := rfl
theorem at_put2 (i : Int) : bnd (hput 2 (.int i)) u h = u () { h with rest := i } := rfl
theorem at_put3 (i : Int) : bnd (hput 3 (.int i)) u h = u () { h with total := i } := rfl
end
theorem oEq_int (i j : Int) : oEq (.int i) (.int j) = some (.bl (decide (i = j))) := by
  unfold oEq
  rw [eqD_int]
  rfl
theorem oNe_int (i j : Int) : oNe (.int i) (.int j) = some (.bl (!decide (i = j))) := by
  unfold oNe
  rw [eqD_int]
  rfl
theorem oAdd_int (i j : Int) : oAdd (.int i) (.int j) = some (.int (i + j)) := rfl
theorem oSub_int (i j : Int) : oSub (.int i) (.int j) = some (.int (i - j)) := rfl
theorem oLt_int (i j : Int) : oLt (.int i) (.int j) = some (.bl (decide (i < j))) := rfl
theorem oGt_int (i j : Int) : oGt (.int i) (.int j) = some (.bl (decide (j < i))) := rfl
theorem oLe_int (i j : Int) : oLe (.int i) (.int j) = some (.bl (decide (i ≤ j))) := rfl
theorem oGe_int (i j : Int) : oGe (.int i) (.int j) = some (.bl (decide (j ≤ i))) := rfl
theorem oIntOf_int (i : Int) : oIntOf (.int i) = some (.int i) := rfl
theorem asB_bl (b : Bool) : asB (.bl b) = some b := rfl
theorem tru_bl (b : Bool) : tru (.bl b) = some b := rfl
theorem oLen_lst (ds : List D) : oLen (.lst ds) = some (.int ds.length) := rfl
theorem oLen_tup (ds : List D) : oLen (.tup ds) = some (.int ds.length) := rfl
theorem frD_nx {S α : Type} (k : α → MS S D) (a : α) : frD k (.nx a) = k a := rfl
theorem frD_rt {S α : Type} (k : α → MS S D) (d : D) : frD k (.rt d) = ret d := rfl
/-! evaluation at a state -/
section
variable {S α β : Type} (s : S)
theorem bnd_at (m : MS S α) (k : α → MS S β) : bnd m k s = (m s).go k := rfl
theorem go_ok (a : α) (k : α → MS S β) : (Rs.ok a s).go k = k a s := rfl
theorem ret_at (a : α) : (ret a : MS S α) s = .ok a s := rfl
theorem lft_at (a : α) : (lft (some a) : MS S α) s = .ok a s := rfl
theorem ite_t {m n : MS S α} : (if true = true then m else n) s = m s := rfl
theorem ite_f {m n : MS S α} : (if false = true then m else n) s = n s := rfl
theorem nex_at {m : MS S α} {a : α} {s s' : S} (h : m s = .ok a s') : nex m s = .ok a s' := by
  unfold nex
  rw [h]
theorem frD_nxS (k : α → MS S D) (a : α) : frD k (.nx a) s = k a s := rfl
theorem frD_rtS (k : α → MS S D) (d : D) : frD k (.rt d) s = .ok d s := rfl
theorem un1_eq (d : D) : un1 d = some d := rfl
end
section
variable {cells : List Int} (h : Hd)
theorem get0_at : hget cells 0 h = .ok (.lst (cells.map D.int)) h := rfl
theorem get1_at : hget cells 1 h = .ok (.int h.pos) h := rfl
theorem get2_at : hget cells 2 h = .ok (.int h.rest) h := rfl
theorem get3_at : hget cells 3 h = .ok (.int h.total) h := rfl
theorem put1_at (i : Int) : hput 1 (.int i) h = .ok () { h with pos := i } := rfl
theorem put2_at (i : Int) : hput 2 (.int i) h = .ok () { h with rest := i } := rfl
theorem put3_at (i : Int) : hput 3 (.int i) h = .ok () { h with total := i } := rfl
end
theorem atI_map {cells : List Int} {p : Int} (h0 : 0 ≤ p) (h1 : p < cells.length) : ∃ c, oIx (.lst (cells.map D.int)) (.int p) = some (.int c) := by
  obtain ⟨k, rfl⟩ := Int.eq_ofNat_of_zero_le h0
  have hk : k < cells.length := by omega
  refine ⟨cells[k], ?_⟩
  show atI (cells.map D.int) (k : Int) = _
  refine atI_nat ?_
  rw [List.getElem?_map, List.getElem?_eq_getElem hk]
  rfl
theorem pow_18 : oPow (.int 10) (.int 18) = some (.int 1000000000000000000) := by rfl
theorem pow_20 : oPow (.int 10) (.int 20) = some (.int 100000000000000000000) := by rfl
end Dm

set_option Elab.async false
set_option linter.all false
set_option maxRecDepth 100000
set_option maxHeartbeats 8000000
namespace G_spreadhues_k19_rows_struck_and_hidden
open PySem PySem.Spec PyProof.Rows L2 Dm
def topS (i : Nat) : Stmt := PySem.Challenge.pw_spreadhues_k19_rows_struck_and_hidden.main.body.getD i (.Pass ⟨0, 0, 0, 0⟩)
abbrev s_is_whole : Stmt := topS 6
abbrev s_is_sequence : Stmt := topS 7
abbrev s_is_colour : Stmt := topS 8
abbrev s_wrong_colour : Stmt := topS 9
abbrev s_check_colour : Stmt := topS 10
abbrev s_check_row : Stmt := topS 11
abbrev s_struck_row : Stmt := topS 14
abbrev s_strike : Stmt := topS 15
abbrev s_least_equal_row : Stmt := topS 16
abbrev s__check_first : Stmt := topS 17
abbrev s__least_equal : Stmt := topS 18
abbrev s_hidden_places : Stmt := topS 19
abbrev s_find_places : Stmt := topS 20
abbrev s_is_hidden : Stmt := topS 21
abbrev s__law_hand : Stmt := topS 23
abbrev s__law_mixed : Stmt := topS 24
abbrev s__law_take : Stmt := topS 25
abbrev s__law_struck : Stmt := topS 26
abbrev s__law_tuples : Stmt := topS 27
abbrev s__law_pick : Stmt := topS 28
abbrev s__law_says : Stmt := topS 29
abbrev s__law_tone : Stmt := topS 30
abbrev s__law_row : Stmt := topS 31
abbrev s__law_varied : Stmt := topS 32
abbrev s__law_strip : Stmt := topS 33
abbrev s__law_no_row : Stmt := topS 34
abbrev s__law_places : Stmt := topS 35
abbrev s__law_asked : Stmt := topS 36
abbrev s__law_refusals : Stmt := topS 37
abbrev s__law_right : Stmt := topS 38
abbrev s_law : Stmt := topS 39
abbrev s_BadColour : Stmt := inClass (topS 2) 0
abbrev s_BadRow : Stmt := inClass (topS 3) 0
structure Ad where
  a_is_whole : Addr
  d_is_whole : FuncData
  a_is_sequence : Addr
  d_is_sequence : FuncData
  a_is_colour : Addr
  d_is_colour : FuncData
  a_wrong_colour : Addr
  d_wrong_colour : FuncData
  a_check_colour : Addr
  d_check_colour : FuncData
  a_check_row : Addr
  d_check_row : FuncData
  a_struck_row : Addr
  d_struck_row : FuncData
  a_strike : Addr
  d_strike : FuncData
  a_least_equal_row : Addr
  d_least_equal_row : FuncData
  a__check_first : Addr
  d__check_first : FuncData
  a__least_equal : Addr
  d__least_equal : FuncData
  a_hidden_places : Addr
  d_hidden_places : FuncData
  a_find_places : Addr
  d_find_places : FuncData
  a_is_hidden : Addr
  d_is_hidden : FuncData
  a__law_hand : Addr
  d__law_hand : FuncData
  a__law_mixed : Addr
  d__law_mixed : FuncData
  a__law_take : Addr
  d__law_take : FuncData
  a__law_struck : Addr
  d__law_struck : FuncData
  a__law_tuples : Addr
  d__law_tuples : FuncData
  a__law_pick : Addr
  d__law_pick : FuncData
  a__law_says : Addr
  d__law_says : FuncData
  a__law_tone : Addr
  d__law_tone : FuncData
  a__law_row : Addr
  d__law_row : FuncData
  a__law_varied : Addr
  d__law_varied : FuncData
  a__law_strip : Addr
  d__law_strip : FuncData
  a__law_no_row : Addr
  d__law_no_row : FuncData
  a__law_places : Addr
  d__law_places : FuncData
  a__law_asked : Addr
  d__law_asked : FuncData
  a__law_refusals : Addr
  d__law_refusals : FuncData
  a__law_right : Addr
  d__law_right : FuncData
  a_law : Addr
  d_law : FuncData
  c_HueError : Addr
  c_BadColour : Addr
  c_BadRow : Addr
  i_BadColour : Addr
  di_BadColour : FuncData
  i_BadRow : Addr
  di_BadRow : FuncData
def fnZ : Nat → List Str
  | 0 => ["colour"]
  | 1 => ["index"]
  | _ => []
def Zo (K : PySem.W.Frag) (A : Ad) : Wo := ⟨K, fun n => match n with | 0 => A.c_BadColour | 1 => A.c_BadRow | _ => 0, fnZ⟩
structure Tx (K : PySem.W.Frag) (mg : Str → Option Value) (A : Ad) : Prop where
  F_is_whole : FunD K "is_whole" "is_whole" (defArgs s_is_whole) (defBody s_is_whole) (defScope s_is_whole) [.non, .non] [] A.a_is_whole A.d_is_whole
  g_is_whole : mg "is_whole" = some (.ref A.a_is_whole)
  b_is_whole : Binds K A.d_is_whole ["thing", "low", "high"] []
  F_is_sequence : FunD K "is_sequence" "is_sequence" (defArgs s_is_sequence) (defBody s_is_sequence) (defScope s_is_sequence) [] [] A.a_is_sequence A.d_is_sequence
  g_is_sequence : mg "is_sequence" = some (.ref A.a_is_sequence)
  b_is_sequence : Binds K A.d_is_sequence ["thing"] []
  F_is_colour : FunD K "is_colour" "is_colour" (defArgs s_is_colour) (defBody s_is_colour) (defScope s_is_colour) [] [] A.a_is_colour A.d_is_colour
  g_is_colour : mg "is_colour" = some (.ref A.a_is_colour)
  b_is_colour : Binds K A.d_is_colour ["thing"] []
  F_wrong_colour : FunD K "wrong_colour" "wrong_colour" (defArgs s_wrong_colour) (defBody s_wrong_colour) (defScope s_wrong_colour) [] [] A.a_wrong_colour A.d_wrong_colour
  g_wrong_colour : mg "wrong_colour" = some (.ref A.a_wrong_colour)
  b_wrong_colour : Binds K A.d_wrong_colour ["row"] []
  F_check_colour : FunD K "check_colour" "check_colour" (defArgs s_check_colour) (defBody s_check_colour) (defScope s_check_colour) [] [] A.a_check_colour A.d_check_colour
  g_check_colour : mg "check_colour" = some (.ref A.a_check_colour)
  b_check_colour : Binds K A.d_check_colour ["colour"] []
  F_check_row : FunD K "check_row" "check_row" (defArgs s_check_row) (defBody s_check_row) (defScope s_check_row) [.int 60] [] A.a_check_row A.d_check_row
  g_check_row : mg "check_row" = some (.ref A.a_check_row)
  b_check_row : Binds K A.d_check_row ["row", "most"] []
  F_struck_row : FunD K "struck_row" "struck_row" (defArgs s_struck_row) (defBody s_struck_row) (defScope s_struck_row) [] [] A.a_struck_row A.d_struck_row
  g_struck_row : mg "struck_row" = some (.ref A.a_struck_row)
  b_struck_row : Binds K A.d_struck_row ["row"] []
  F_strike : FunD K "strike" "strike" (defArgs s_strike) (defBody s_strike) (defScope s_strike) [] [] A.a_strike A.d_strike
  g_strike : mg "strike" = some (.ref A.a_strike)
  b_strike : Binds K A.d_strike ["row"] []
  F_least_equal_row : FunD K "least_equal_row" "least_equal_row" (defArgs s_least_equal_row) (defBody s_least_equal_row) (defScope s_least_equal_row) [.non] [] A.a_least_equal_row A.d_least_equal_row
  g_least_equal_row : mg "least_equal_row" = some (.ref A.a_least_equal_row)
  b_least_equal_row : Binds K A.d_least_equal_row ["row", "first"] []
  b_least_equal_row_1 : ∃ ds, Vals [.non] ds ∧ Binds K A.d_least_equal_row ["row", "first"] ds
  kw_least_equal_row_first : ∃ its : List Value, KBn K A.d_least_equal_row ["row", "first"] 1 ["first"] (fun us ws => us ++ ws) (fun vs zs => vs ++ zs)
  F__check_first : FunD K "_check_first" "_check_first" (defArgs s__check_first) (defBody s__check_first) (defScope s__check_first) [] [] A.a__check_first A.d__check_first
  g__check_first : mg "_check_first" = some (.ref A.a__check_first)
  b__check_first : Binds K A.d__check_first ["first"] []
  F__least_equal : FunD K "_least_equal" "_least_equal" (defArgs s__least_equal) (defBody s__least_equal) (defScope s__least_equal) [] [] A.a__least_equal A.d__least_equal
  g__least_equal : mg "_least_equal" = some (.ref A.a__least_equal)
  b__least_equal : Binds K A.d__least_equal ["row", "first"] []
  F_hidden_places : FunD K "hidden_places" "hidden_places" (defArgs s_hidden_places) (defBody s_hidden_places) (defScope s_hidden_places) [] [] A.a_hidden_places A.d_hidden_places
  g_hidden_places : mg "hidden_places" = some (.ref A.a_hidden_places)
  b_hidden_places : Binds K A.d_hidden_places ["row", "within"] []
  F_find_places : FunD K "find_places" "find_places" (defArgs s_find_places) (defBody s_find_places) (defScope s_find_places) [] [] A.a_find_places A.d_find_places
  g_find_places : mg "find_places" = some (.ref A.a_find_places)
  b_find_places : Binds K A.d_find_places ["row", "within"] []
  F_is_hidden : FunD K "is_hidden" "is_hidden" (defArgs s_is_hidden) (defBody s_is_hidden) (defScope s_is_hidden) [] [] A.a_is_hidden A.d_is_hidden
  g_is_hidden : mg "is_hidden" = some (.ref A.a_is_hidden)
  b_is_hidden : Binds K A.d_is_hidden ["row", "within"] []
  F__law_hand : FunD K "_law_hand" "_law_hand" (defArgs s__law_hand) (defBody s__law_hand) (defScope s__law_hand) [] [] A.a__law_hand A.d__law_hand
  g__law_hand : mg "_law_hand" = some (.ref A.a__law_hand)
  b__law_hand : Binds K A.d__law_hand ["_law_script"] []
  F__law_mixed : FunD K "_law_mixed" "_law_mixed" (defArgs s__law_mixed) (defBody s__law_mixed) (defScope s__law_mixed) [] [] A.a__law_mixed A.d__law_mixed
  g__law_mixed : mg "_law_mixed" = some (.ref A.a__law_mixed)
  b__law_mixed : Binds K A.d__law_mixed ["_law_number", "_law_turn"] []
  F__law_take : FunD K "_law_take" "_law_take" (defArgs s__law_take) (defBody s__law_take) (defScope s__law_take) [] [] A.a__law_take A.d__law_take
  g__law_take : mg "_law_take" = some (.ref A.a__law_take)
  b__law_take : Binds K A.d__law_take ["_law_hand_here", "_law_many"] []
  F__law_struck : FunD K "_law_struck" "_law_struck" (defArgs s__law_struck) (defBody s__law_struck) (defScope s__law_struck) [] [] A.a__law_struck A.d__law_struck
  g__law_struck : mg "_law_struck" = some (.ref A.a__law_struck)
  b__law_struck : Binds K A.d__law_struck ["_law_row_here"] []
  F__law_tuples : FunD K "_law_tuples" "_law_tuples" (defArgs s__law_tuples) (defBody s__law_tuples) (defScope s__law_tuples) [] [] A.a__law_tuples A.d__law_tuples
  g__law_tuples : mg "_law_tuples" = some (.ref A.a__law_tuples)
  b__law_tuples : Binds K A.d__law_tuples ["_law_thing"] []
  F__law_pick : FunD K "_law_pick" "_law_pick" (defArgs s__law_pick) (defBody s__law_pick) (defScope s__law_pick) [] [] A.a__law_pick A.d__law_pick
  g__law_pick : mg "_law_pick" = some (.ref A.a__law_pick)
  b__law_pick : Binds K A.d__law_pick ["_law_hand_here", "_law_things"] []
  F__law_says : FunD K "_law_says" "_law_says" (defArgs s__law_says) (defBody s__law_says) (defScope s__law_says) [] [] A.a__law_says A.d__law_says
  g__law_says : mg "_law_says" = some (.ref A.a__law_says)
  b__law_says : Binds K A.d__law_says ["_law_thing", "_law_due"] []
  F__law_tone : FunD K "_law_tone" "_law_tone" (defArgs s__law_tone) (defBody s__law_tone) (defScope s__law_tone) [] [] A.a__law_tone A.d__law_tone
  g__law_tone : mg "_law_tone" = some (.ref A.a__law_tone)
  b__law_tone : Binds K A.d__law_tone ["_law_hand_here", "_law_tones"] []
  F__law_row : FunD K "_law_row" "_law_row" (defArgs s__law_row) (defBody s__law_row) (defScope s__law_row) [] [] A.a__law_row A.d__law_row
  g__law_row : mg "_law_row" = some (.ref A.a__law_row)
  b__law_row : Binds K A.d__law_row ["_law_hand_here", "_law_most", "_law_tones"] []
  F__law_varied : FunD K "_law_varied" "_law_varied" (defArgs s__law_varied) (defBody s__law_varied) (defScope s__law_varied) [] [] A.a__law_varied A.d__law_varied
  g__law_varied : mg "_law_varied" = some (.ref A.a__law_varied)
  b__law_varied : Binds K A.d__law_varied ["_law_hand_here", "_law_row_here", "_law_tones", "_law_most"] []
  F__law_strip : FunD K "_law_strip" "_law_strip" (defArgs s__law_strip) (defBody s__law_strip) (defScope s__law_strip) [] [] A.a__law_strip A.d__law_strip
  g__law_strip : mg "_law_strip" = some (.ref A.a__law_strip)
  b__law_strip : Binds K A.d__law_strip ["_law_row_here", "_law_head"] []
  F__law_no_row : FunD K "_law_no_row" "_law_no_row" (defArgs s__law_no_row) (defBody s__law_no_row) (defScope s__law_no_row) [] [] A.a__law_no_row A.d__law_no_row
  g__law_no_row : mg "_law_no_row" = some (.ref A.a__law_no_row)
  b__law_no_row : Binds K A.d__law_no_row ["_law_hand_here", "_law_row_here", "_law_most"] []
  F__law_places : FunD K "_law_places" "_law_places" (defArgs s__law_places) (defBody s__law_places) (defScope s__law_places) [] [] A.a__law_places A.d__law_places
  g__law_places : mg "_law_places" = some (.ref A.a__law_places)
  b__law_places : Binds K A.d__law_places ["_law_row_here", "_law_within"] []
  F__law_asked : FunD K "_law_asked" "_law_asked" (defArgs s__law_asked) (defBody s__law_asked) (defScope s__law_asked) [] [] A.a__law_asked A.d__law_asked
  g__law_asked : mg "_law_asked" = some (.ref A.a__law_asked)
  b__law_asked : Binds K A.d__law_asked ["_law_kind", "_law_row_here", "_law_within", "_law_first"] []
  F__law_refusals : FunD K "_law_refusals" "_law_refusals" (defArgs s__law_refusals) (defBody s__law_refusals) (defScope s__law_refusals) [] [] A.a__law_refusals A.d__law_refusals
  g__law_refusals : mg "_law_refusals" = some (.ref A.a__law_refusals)
  b__law_refusals : Binds K A.d__law_refusals ["_law_hand_here", "_law_row_here", "_law_within"] []
  F__law_right : FunD K "_law_right" "_law_right" (defArgs s__law_right) (defBody s__law_right) (defScope s__law_right) [] [] A.a__law_right A.d__law_right
  g__law_right : mg "_law_right" = some (.ref A.a__law_right)
  b__law_right : Binds K A.d__law_right ["_law_row_here", "_law_within", "_law_first"] []
  F_law : FunD K "law" "law" (defArgs s_law) (defBody s_law) (defScope s_law) [] [] A.a_law A.d_law
  g_law : mg "law" = some (.ref A.a_law)
  b_law : Binds K A.d_law ["_law_script"] []
  o_BadColour : OexC K A.c_BadColour
  x_BadColour : XfC K A.c_BadColour
  g_BadColour : mg "BadColour" = some (.ref A.c_BadColour)
  i_BadColour : PySem.W.findIn K (.ref A.c_BadColour) "__init__" = some (some (.ref A.i_BadColour))
  t_BadColour : PySem.W.typeIn K (.ref A.i_BadColour) = some (.type "function")
  FI_BadColour : FunD K "__init__" "BadColour.__init__" (defArgs s_BadColour) (defBody s_BadColour) (defScope s_BadColour) [] [] A.i_BadColour A.di_BadColour
  bi_BadColour : Binds K A.di_BadColour ["self", "colour"] []
  h_BadColour_colour : PySem.W.findIn K (.ref A.c_BadColour) "colour" = some none
  o_BadRow : OexC K A.c_BadRow
  x_BadRow : XfC K A.c_BadRow
  g_BadRow : mg "BadRow" = some (.ref A.c_BadRow)
  i_BadRow : PySem.W.findIn K (.ref A.c_BadRow) "__init__" = some (some (.ref A.i_BadRow))
  t_BadRow : PySem.W.typeIn K (.ref A.i_BadRow) = some (.type "function")
  FI_BadRow : FunD K "__init__" "BadRow.__init__" (defArgs s_BadRow) (defBody s_BadRow) (defScope s_BadRow) [] [] A.i_BadRow A.di_BadRow
  bi_BadRow : Binds K A.di_BadRow ["self", "index"] []
  h_BadRow_index : PySem.W.findIn K (.ref A.c_BadRow) "index" = some none
  base : BaseC K mg "HueError" A.c_HueError
  n_abs : mg "abs" = none
  n_bool : mg "bool" = none
  n_enumerate : mg "enumerate" = none
  n_int : mg "int" = none
  n_isinstance : mg "isinstance" = none
  n_len : mg "len" = none
  n_list : mg "list" = none
  n_min : mg "min" = none
  n_range : mg "range" = none
  n_tuple : mg "tuple" = none
  k_MOST_COLOUR : ∃ t, mg "MOST_COLOUR" = some (.int 99 t)
  k_MOST_ROW : ∃ t, mg "MOST_ROW" = some (.int 40 t)
  ex : ∀ c c', c < 2 → c' < 2 → PySem.W.exmOne K (.ref ((Zo K A).cl c)) (.ref ((Zo K A).cl c')) = some (decide (c = c'))
def ok_i_BadColour : List V → Prop
  | [v0] => True
  | _ => False
noncomputable def okD_BadColour : List D → Bool
  | [v0] => true
  | _ => false
def ok_i_BadRow : List V → Prop
  | [v0] => fmtV v0
  | _ => False
noncomputable def okD_BadRow : List D → Bool
  | [v0] => fmtD v0
  | _ => false
noncomputable def m_is_whole (S : Type) : List D → MS S D
  | [a_thing, a_low, a_high] => bnd (bnd (bnd (bnd (bnd (ret a_thing) fun x3 => lft (oIsA .int x3)) fun x4 => lft (tru x4)) fun b5 => ret (!b5)) fun b6 => if b6 = true then ret true else bnd (bnd (ret a_thing) fun x1 => lft (oIsA .bool x1)) fun x2 => lft (tru x2)) fun b7 => if b7 = true then ret (.bl false) else bnd (bnd (bnd (bnd (ret a_low) fun x11 => bnd (ret .non) fun x12 => lft (oNis x11 x12)) fun x13 => lft (asB x13)) fun b14 => if b14 = true then bnd (bnd (ret a_thing) fun x8 => bnd (ret a_low) fun x9 => lft (oLt x8 x9)) fun x10 => lft (asB x10) else ret false) fun b15 => if b15 = true then ret (.bl false) else bnd (bnd (ret a_high) fun x18 => bnd (ret .non) fun x19 => lft (oIs x18 x19)) fun x20 => bnd (lft (asB x20)) fun b21 => if b21 = true then ret (.bl true) else bnd (ret a_thing) fun x16 => bnd (ret a_high) fun x17 => lft (oLe x16 x17)
  | _ => stk
noncomputable def m_is_sequence (S : Type) : List D → MS S D
  | [a_thing] => bnd (ret a_thing) fun x1 => lft (oIsAs [.list, .tuple] x1)
  | _ => stk
noncomputable def m_is_colour (S : Type) : List D → MS S D
  | [a_thing] => bnd (bnd (ret a_thing) fun x5 => bnd (bnd (ret (.int 0)) fun x3 => bnd (bnd (ret (.int 99)) fun x1 => bnd (ret []) fun ds2 => ret (x1 :: ds2)) fun ds4 => ret (x3 :: ds4)) fun ds6 => ret (x5 :: ds6)) fun ds7 => m_is_whole S (ds7 ++ [])
  | _ => stk
noncomputable def m_wrong_colour (S : Type) : List D → MS S D
  | [a_row] => bnd (bnd (bnd (ret a_row) fun x11 => lft ((items x11).map (numb 0))) fun ds10 => forF un2 (fun (t3 : D × D) (s2 : Unit) => bnd (bnd (bnd (bnd (bnd (ret t3.2) fun x4 => bnd (ret []) fun ds5 => ret (x4 :: ds5)) fun ds6 => m_is_colour S (ds6 ++ [])) fun x7 => lft (tru x7)) fun b8 => ret (!b8)) fun b9 => if b9 = true then bnd (ret t3.1) fun a => ret (Fl.rt a) else bnd (ret ()) fun _ => ret (Fl.nx ())) ds10 ()) (frD fun s2 => ret .non)
  | _ => stk
noncomputable def m_check_colour (S : Type) : List D → MS S D
  | [a_colour] => bnd (bnd (bnd (bnd (bnd (ret a_colour) fun x1 => bnd (ret []) fun ds2 => ret (x1 :: ds2)) fun ds3 => m_is_colour S (ds3 ++ [])) fun x4 => lft (tru x4)) fun b5 => ret (!b5)) fun b6 => if b6 = true then bnd (bnd (ret a_colour) fun x7 => bnd (ret []) fun ds8 => ret (x7 :: ds8)) fun ds9 => if okD_BadColour ds9 = true then rse 0 ds9.reverse else stk else ret a_colour
  | _ => stk
noncomputable def m_check_row (S : Type) : List D → MS S D
  | [a_row, a_most] => bnd (bnd (bnd (bnd (bnd (bnd (ret a_row) fun x5 => bnd (ret []) fun ds6 => ret (x5 :: ds6)) fun ds7 => m_is_sequence S (ds7 ++ [])) fun x8 => lft (tru x8)) fun b9 => ret (!b9)) fun b10 => if b10 = true then ret true else bnd (bnd (bnd (ret a_row) fun x1 => lft (oLen x1)) fun x2 => bnd (ret a_most) fun x3 => lft (oGt x2 x3)) fun x4 => lft (asB x4)) fun b11 => if b11 = true then bnd (bnd (ret (.int 0)) fun x12 => bnd (ret []) fun ds13 => ret (x12 :: ds13)) fun ds14 => if okD_BadRow ds14 = true then rse 1 ds14.reverse else stk else bnd (bnd (bnd (ret a_row) fun x16 => bnd (ret []) fun ds17 => ret (x16 :: ds17)) fun ds18 => m_wrong_colour S (ds18 ++ [])) fun v_wrong_15 => bnd (bnd (bnd (ret v_wrong_15) fun x19 => bnd (ret .non) fun x20 => lft (oNis x19 x20)) fun x21 => lft (asB x21)) fun b22 => if b22 = true then bnd (bnd (ret v_wrong_15) fun x23 => bnd (ret []) fun ds24 => ret (x23 :: ds24)) fun ds25 => if okD_BadRow ds25 = true then rse 1 ds25.reverse else stk else bnd (ret a_row) fun x26 => lft (oTuple x26)
  | _ => stk
noncomputable def m_strike (S : Type) : List D → MS S D
  | [a_row] => bnd (bnd (bnd (bnd (ret a_row) fun x1 => lft ((items x1).map (numb 0))) fun ds14 => bnd (lft (mkL ds14)) fun ds15 => lcM un2 (fun t2 => bnd (bnd (bnd (ret t2.1) fun x10 => bnd (ret (.int 0)) fun x11 => lft (oEq x10 x11)) fun x12 => lft (asB x12)) fun b13 => if b13 = true then ret true else bnd (bnd (bnd (ret a_row) fun x5 => bnd (bnd (ret t2.1) fun x3 => bnd (ret (.int 1)) fun x4 => lft (oSub x3 x4)) fun x6 => lft (oIx x5 x6)) fun x7 => bnd (ret t2.2) fun x8 => lft (oNe x7 x8)) fun x9 => lft (asB x9)) (fun t2 => ret t2.2) ds15) fun ds16 => ret (.lst ds16)) fun x17 => lft (oTuple x17)
  | _ => stk
noncomputable def m_struck_row (S : Type) : List D → MS S D
  | [a_row] => bnd (bnd (bnd (bnd (ret a_row) fun x3 => bnd (bnd (ret (.int 40)) fun x1 => bnd (ret []) fun ds2 => ret (x1 :: ds2)) fun ds4 => ret (x3 :: ds4)) fun ds5 => m_check_row S (ds5 ++ [])) fun x6 => bnd (ret []) fun ds7 => ret (x6 :: ds7)) fun ds8 => m_strike S (ds8 ++ [])
  | _ => stk
noncomputable def m__check_first (S : Type) : List D → MS S D
  | [a_first] => bnd (bnd (bnd (ret a_first) fun x1 => bnd (ret .non) fun x2 => lft (oNis x1 x2)) fun x3 => lft (asB x3)) fun b4 => if b4 = true then bnd (bnd (bnd (ret a_first) fun x5 => bnd (ret []) fun ds6 => ret (x5 :: ds6)) fun ds7 => m_check_colour S (ds7 ++ [])) fun _ => ret .non else ret .non
  | _ => stk
noncomputable def m__least_equal (S : Type) : List D → MS S D
  | [a_row, a_first] => bnd (bnd (bnd (ret a_row) fun x2 => bnd (ret []) fun ds3 => ret (x2 :: ds3)) fun ds4 => m_strike S (ds4 ++ [])) fun v_struck_1 => bnd (bnd (bnd (bnd (ret v_struck_1) fun x6 => bnd (ret none) fun lo7 => bnd (bnd (ret (.int 1)) fun x5 => lft (oInt? x5)) fun hi8 => lft (oSl x6 lo7 hi8)) fun x12 => bnd (bnd (bnd (ret a_first) fun x9 => bnd (ret []) fun ds10 => ret (x9 :: ds10)) fun ds11 => lft ((mkL ds11).map D.tup)) fun x13 => lft (oEq x12 x13)) fun x14 => lft (asB x14)) fun b19 => if b19 = true then bnd (ret v_struck_1) fun x16 => bnd (bnd (ret (.int 1)) fun x15 => lft (oInt? x15)) fun lo17 => bnd (ret none) fun hi18 => lft (oSl x16 lo17 hi18) else ret v_struck_1
  | _ => stk
noncomputable def m_least_equal_row (S : Type) : List D → MS S D
  | [a_row, a_first] => bnd (bnd (bnd (ret a_row) fun x4 => bnd (bnd (ret (.int 40)) fun x2 => bnd (ret []) fun ds3 => ret (x2 :: ds3)) fun ds5 => ret (x4 :: ds5)) fun ds6 => m_check_row S (ds6 ++ [])) fun v_checked_1 => bnd (bnd (bnd (ret a_first) fun x7 => bnd (ret []) fun ds8 => ret (x7 :: ds8)) fun ds9 => m__check_first S (ds9 ++ [])) fun _ => bnd (bnd (ret v_checked_1) fun x12 => bnd (bnd (ret a_first) fun x10 => bnd (ret []) fun ds11 => ret (x10 :: ds11)) fun ds13 => ret (x12 :: ds13)) fun ds14 => m__least_equal S (ds14 ++ [])
  | _ => stk
noncomputable def m_find_places (S : Type) : List D → MS S D
  | [a_row, a_within] => bnd (bnd (ret []) fun ds2 => lft (mkL ds2)) fun v_places_1 => bnd (bnd (bnd (ret a_within) fun x30 => lft ((items x30).map (numb 0))) fun ds29 => forN un2 (fun (t5 : D × D) (s4 : List D) => bnd (bnd (bnd (bnd (bnd (ret (.lst s4)) fun x12 => lft (oLen x12)) fun x14 => bnd (bnd (ret a_row) fun x13 => lft (oLen x13)) fun x15 => lft (oLt x14 x15)) fun x16 => lft (asB x16)) fun b17 => if b17 = true then bnd (bnd (bnd (ret a_row) fun x7 => bnd (bnd (ret (.lst s4)) fun x6 => lft (oLen x6)) fun x8 => lft (oIx x7 x8)) fun x9 => bnd (ret t5.2) fun x10 => lft (oEq x9 x10)) fun x11 => lft (asB x11) else ret false) fun b18 => if b18 = true then bnd (bnd (ret t5.1) fun x20 => lft (app1 s4 x20)) fun es19 => bnd (ret ()) fun _ => ret es19 else bnd (ret ()) fun _ => ret s4) ds29 v_places_1) fun s4 => bnd (bnd (bnd (bnd (ret (.lst s4)) fun x22 => lft (oLen x22)) fun x24 => bnd (bnd (ret a_row) fun x23 => lft (oLen x23)) fun x25 => lft (oEq x24 x25)) fun x26 => lft (asB x26)) fun b28 => if b28 = true then bnd (ret (.lst s4)) fun x27 => lft (oTuple x27) else ret .non
  | _ => stk
noncomputable def m_hidden_places (S : Type) : List D → MS S D
  | [a_row, a_within] => bnd (bnd (bnd (ret a_row) fun x4 => bnd (bnd (ret (.int 40)) fun x2 => bnd (ret []) fun ds3 => ret (x2 :: ds3)) fun ds5 => ret (x4 :: ds5)) fun ds6 => m_check_row S (ds6 ++ [])) fun v_checked_1 => bnd (bnd (ret v_checked_1) fun x14 => bnd (bnd (bnd (bnd (ret a_within) fun x9 => bnd (bnd (ret (.int 40)) fun x7 => bnd (ret []) fun ds8 => ret (x7 :: ds8)) fun ds10 => ret (x9 :: ds10)) fun ds11 => m_check_row S (ds11 ++ [])) fun x12 => bnd (ret []) fun ds13 => ret (x12 :: ds13)) fun ds15 => ret (x14 :: ds15)) fun ds16 => m_find_places S (ds16 ++ [])
  | _ => stk
noncomputable def m_is_hidden (S : Type) : List D → MS S D
  | [a_row, a_within] => bnd (bnd (bnd (ret a_row) fun x3 => bnd (bnd (ret a_within) fun x1 => bnd (ret []) fun ds2 => ret (x1 :: ds2)) fun ds4 => ret (x3 :: ds4)) fun ds5 => m_hidden_places S (ds5 ++ [])) fun x6 => bnd (ret .non) fun x7 => lft (oNis x6 x7)
  | _ => stk
noncomputable def m__law_mixed (S : Type) : List D → MS S D
  | [a_number, a_turn] => bnd (bnd (bnd (bnd (bnd (bnd (ret a_number) fun x2 => bnd (ret (.int 69621)) fun x3 => lft (oMul x2 x3)) fun x6 => bnd (bnd (ret a_turn) fun x4 => bnd (ret (.int 7907)) fun x5 => lft (oMul x4 x5)) fun x7 => lft (oAdd x6 x7)) fun x8 => bnd (ret (.int 40503)) fun x9 => lft (oAdd x8 x9)) fun x10 => lft (oIntOf x10)) fun x11 => bnd (ret (.int 2147483647)) fun x12 => lft (oMod x11 x12)) fun v_once_1 => bnd (bnd (bnd (bnd (bnd (bnd (ret v_once_1) fun x14 => bnd (ret v_once_1) fun x15 => lft (oMul x14 x15)) fun x18 => bnd (bnd (ret a_turn) fun x16 => bnd (ret (.int 104723)) fun x17 => lft (oMul x16 x17)) fun x19 => lft (oAdd x18 x19)) fun x22 => bnd (bnd (ret v_once_1) fun x20 => bnd (ret (.int 131)) fun x21 => lft (oDiv x20 x21)) fun x23 => lft (oAdd x22 x23)) fun x24 => lft (oIntOf x24)) fun x25 => bnd (ret (.int 2147483629)) fun x26 => lft (oMod x25 x26)) fun v_twice_13 => bnd (bnd (bnd (bnd (bnd (bnd (ret v_twice_13) fun x27 => bnd (ret (.int 48271)) fun x28 => lft (oMul x27 x28)) fun x31 => bnd (bnd (ret v_once_1) fun x29 => bnd (ret (.int 7)) fun x30 => lft (oDiv x29 x30)) fun x32 => lft (oAdd x31 x32)) fun x33 => lft (oIntOf x33)) fun x34 => bnd (ret (.int 2147483579)) fun x35 => lft (oMod x34 x35)) fun x36 => lft (oIntOf x36)) fun x37 => bnd (ret (.int 32)) fun x38 => lft (oDiv x37 x38)
  | _ => stk
noncomputable def m__law_take (cells : List Int) : List D → MS Hd D
  | [a_many] => bnd (bnd (bnd (bnd (bnd (hget cells 2) fun x5 => bnd (ret (.int 0)) fun x6 => lft (oEq x5 x6)) fun x7 => lft (asB x7)) fun b8 => if b8 = true then bnd (bnd (hget cells 1) fun x2 => bnd (bnd (hget cells 0) fun x1 => lft (oLen x1)) fun x3 => lft (oLt x2 x3)) fun x4 => lft (asB x4) else ret false) fun b9 => if b9 = true then bnd (bnd (hget cells 0) fun x12 => bnd (hget cells 1) fun x13 => lft (oIx x12 x13)) fun v_cell_11 => bnd (bnd (bnd (hget cells 1) fun x14 => bnd (ret (.int 1)) fun x15 => lft (oAdd x14 x15)) fun x16 => hput 1 x16) fun _ => bnd (bnd (bnd (ret v_cell_11) fun x19 => bnd (bnd (ret (.int 10)) fun x17 => bnd (ret (.int 18)) fun x18 => lft (oPow x17 x18)) fun x20 => lft (oLt x19 x20)) fun x21 => lft (asB x21)) fun b22 => if b22 = true then bnd (bnd (bnd (bnd (bnd (bnd (bnd (ret v_cell_11) fun x25 => lft (oIntOf x25)) fun x26 => bnd (ret (.int 2147483647)) fun x27 => lft (oMod x26 x27)) fun x28 => bnd (bnd (hget cells 1) fun x23 => bnd (ret []) fun ds24 => ret (x23 :: ds24)) fun ds29 => ret (x28 :: ds29)) fun ds30 => m__law_mixed Hd (ds30 ++ [])) fun x31 => lft (oIntOf x31)) fun x32 => bnd (ret a_many) fun x33 => lft (oMod x32 x33)) (fun d => ret (Fr.rt d)) else bnd (bnd (ret v_cell_11) fun x34 => hput 2 x34) fun _ => bnd (ret ()) fun _ => ret (Fr.nx ()) else bnd (ret ()) fun _ => ret (Fr.nx ())) (frD fun s10 => bnd (bnd (bnd (hget cells 2) fun x35 => bnd (ret (.int 0)) fun x36 => lft (oGt x35 x36)) fun x37 => lft (asB x37)) fun b38 => if b38 = true then bnd (hget cells 2) fun v_rest_39 => bnd (bnd (bnd (bnd (ret v_rest_39) fun x40 => lft (oIntOf x40)) fun x41 => bnd (ret a_many) fun x42 => lft (oDiv x41 x42)) fun x43 => hput 2 x43) fun _ => bnd (bnd (ret v_rest_39) fun x44 => lft (oIntOf x44)) fun x45 => bnd (ret a_many) fun x46 => lft (oMod x45 x46) else bnd (bnd (bnd (bnd (bnd (hget cells 3) fun x47 => bnd (ret (.int 1)) fun x48 => lft (oAdd x47 x48)) fun x49 => lft (oIntOf x49)) fun x50 => bnd (ret (.int 2147483587)) fun x51 => lft (oMod x50 x51)) fun x52 => hput 3 x52) fun _ => bnd (bnd (bnd (bnd (hget cells 3) fun x55 => bnd (bnd (hget cells 1) fun x53 => bnd (ret []) fun ds54 => ret (x53 :: ds54)) fun ds56 => ret (x55 :: ds56)) fun ds57 => m__law_mixed Hd (ds57 ++ [])) fun x58 => lft (oIntOf x58)) fun x59 => bnd (ret a_many) fun x60 => lft (oMod x59 x60))
  | _ => stk
noncomputable def m__law_struck (S : Type) : List D → MS S D
  | [a_row_here] => bnd (bnd (bnd (bnd (bnd (ret a_row_here) fun x1 => lft (oLen x1)) fun x2 => bnd (ret []) fun ds3 => ret (x2 :: ds3)) fun ds4 => lft (rg1 ds4)) fun ds21 => bnd (lft (mkL ds21)) fun ds22 => lcM un1 (fun t5 => bnd (bnd (bnd (ret t5) fun x15 => bnd (ret (.int 0)) fun x16 => lft (oEq x15 x16)) fun x17 => lft (asB x17)) fun b18 => if b18 = true then ret true else bnd (bnd (bnd (ret a_row_here) fun x6 => bnd (ret t5) fun x7 => lft (oIx x6 x7)) fun x12 => bnd (bnd (ret a_row_here) fun x10 => bnd (bnd (ret t5) fun x8 => bnd (ret (.int 1)) fun x9 => lft (oSub x8 x9)) fun x11 => lft (oIx x10 x11)) fun x13 => lft (oNe x12 x13)) fun x14 => lft (asB x14)) (fun t5 => bnd (ret a_row_here) fun x19 => bnd (ret t5) fun x20 => lft (oIx x19 x20)) ds22) fun ds23 => ret (.lst ds23)
  | _ => stk
noncomputable def m__law_tuples : Nat → (S : Type) → List D → MS S D
  | 0, _, _ => stk
  | k + 1, S, [a_thing] => bnd (bnd (bnd (ret a_thing) fun x1 => lft (oIsA .tuple x1)) fun x2 => lft (tru x2)) fun b3 => if b3 = true then bnd (bnd (bnd (bnd (ret a_thing) fun x4 => lft (items x4)) fun ds11 => bnd (lft (mkL ds11)) fun ds12 => lcM un1 (fun t5 => bnd (bnd (bnd (bnd (ret t5) fun x6 => bnd (ret []) fun ds7 => ret (x6 :: ds7)) fun ds8 => m__law_tuples k S (ds8 ++ [])) fun x9 => lft (tru x9)) fun b10 => ret (!b10)) (fun t5 => ret (.int 1)) ds12) fun ds13 => ret (.lst ds13)) fun x14 => lft ((tru x14).map fun b => .bl (!b)) else bnd (bnd (ret a_thing) fun x21 => bnd (ret .non) fun x22 => lft (oIs x21 x22)) fun x23 => bnd (lft (asB x23)) fun b24 => if b24 = true then ret (.bl true) else bnd (bnd (ret a_thing) fun x18 => lft (oIsA .int x18)) fun x19 => bnd (lft (asB x19)) fun b20 => if b20 = true then bnd (bnd (ret a_thing) fun x15 => lft (oIsA .bool x15)) fun x16 => bnd (lft (asB x16)) fun b17 => ret (.bl (!b17)) else ret (.bl false)
  | _, _, _ => stk
noncomputable def m__law_pick (cells : List Int) : List D → MS Hd D
  | [a_things] => bnd (ret a_things) fun x5 => bnd (bnd (bnd (bnd (ret a_things) fun x1 => lft (oLen x1)) fun x2 => bnd (ret []) fun ds3 => ret (x2 :: ds3)) fun ds4 => m__law_take cells (ds4 ++ [])) fun x6 => lft (oIx x5 x6)
  | _ => stk
noncomputable def m__law_says (S : Type) : List D → MS S D
  | [a_thing, a_due] => bnd (bnd (ret a_thing) fun x3 => lft (oIsA .bool x3)) fun x4 => bnd (lft (asB x4)) fun b5 => if b5 = true then bnd (ret a_thing) fun x1 => bnd (ret a_due) fun x2 => lft (oEq x1 x2) else ret (.bl false)
  | _ => stk
noncomputable def m__law_tone (cells : List Int) : List D → MS Hd D
  | [a_tones] => bnd (bnd (bnd (bnd (bnd (ret (.int 16)) fun x1 => bnd (ret []) fun ds2 => ret (x1 :: ds2)) fun ds3 => m__law_take cells (ds3 ++ [])) fun x4 => bnd (ret (.int 0)) fun x5 => lft (oEq x4 x5)) fun x6 => lft (asB x6)) fun b13 => if b13 = true then bnd (bnd (ret (.int 100)) fun x7 => bnd (ret []) fun ds8 => ret (x7 :: ds8)) fun ds9 => m__law_take cells (ds9 ++ []) else bnd (bnd (ret a_tones) fun x10 => bnd (ret []) fun ds11 => ret (x10 :: ds11)) fun ds12 => m__law_take cells (ds12 ++ [])
  | _ => stk
noncomputable def m__law_row (cells : List Int) : List D → MS Hd D
  | [a_most, a_tones] => bnd (bnd (bnd (bnd (bnd (bnd (bnd (ret a_most) fun x1 => bnd (ret (.int 1)) fun x2 => lft (oAdd x1 x2)) fun x3 => bnd (ret []) fun ds4 => ret (x3 :: ds4)) fun ds5 => m__law_take cells (ds5 ++ [])) fun x6 => bnd (ret []) fun ds7 => ret (x6 :: ds7)) fun ds8 => lft (rg1 ds8)) fun ds13 => bnd (lft (mkL ds13)) fun ds14 => lcM un1 (fun t9 => ret true) (fun t9 => bnd (bnd (ret a_tones) fun x10 => bnd (ret []) fun ds11 => ret (x10 :: ds11)) fun ds12 => m__law_tone cells (ds12 ++ [])) ds14) fun ds15 => ret (.lst ds15)
  | _ => stk
noncomputable def m__law_varied (cells : List Int) : List D → MS Hd D
  | [a_row_here, a_tones, a_most] => bnd (bnd (ret a_row_here) fun x2 => lft (items x2)) fun v_out_1 => bnd (bnd (bnd (ret (.int 6)) fun x4 => bnd (ret []) fun ds5 => ret (x4 :: ds5)) fun ds6 => m__law_take cells (ds6 ++ [])) fun v_kind_3 => bnd (bnd (bnd (bnd (bnd (ret (.lst v_out_1)) fun x8 => lft (oLen x8)) fun x9 => bnd (ret (.int 1)) fun x10 => lft (oAdd x9 x10)) fun x11 => bnd (ret []) fun ds12 => ret (x11 :: ds12)) fun ds13 => m__law_take cells (ds13 ++ [])) fun v_at_7 => bnd (bnd (bnd (bnd (bnd (ret v_kind_3) fun x15 => bnd (ret (.int 0)) fun x16 => lft (oEq x15 x16)) fun x17 => lft (asB x17)) fun b18 => if b18 = true then bnd (ret (.lst v_out_1)) fun x14 => lft (tru x14) else ret false) fun b19 => if b19 = true then bnd (bnd (ret v_at_7) fun x29 => bnd (bnd (ret (.lst v_out_1)) fun x27 => bnd (bnd (ret v_at_7) fun x25 => bnd (bnd (bnd (ret (.lst v_out_1)) fun x22 => lft (oLen x22)) fun x23 => bnd (ret (.int 1)) fun x24 => lft (oSub x23 x24)) fun x26 => lft (oMin2 x25 x26)) fun x28 => lft (oIx x27 x28)) fun x30 => lft (ins1 v_out_1 x29 x30)) fun es21 => bnd (ret ()) fun _ => ret es21 else bnd (ret ()) fun _ => ret v_out_1) fun s20 => bnd (bnd (bnd (bnd (ret v_kind_3) fun x31 => bnd (ret (.int 1)) fun x32 => lft (oEq x31 x32)) fun x33 => lft (asB x33)) fun b34 => if b34 = true then bnd (bnd (ret (.int 0)) fun x40 => bnd (bnd (bnd (ret a_tones) fun x37 => bnd (ret []) fun ds38 => ret (x37 :: ds38)) fun ds39 => m__law_take cells (ds39 ++ [])) fun x41 => lft (ins1 s20 x40 x41)) fun es36 => bnd (ret ()) fun _ => ret es36 else bnd (ret ()) fun _ => ret s20) fun s35 => bnd (bnd (bnd (bnd (bnd (ret v_kind_3) fun x43 => bnd (ret (.int 2)) fun x44 => lft (oEq x43 x44)) fun x45 => lft (asB x45)) fun b46 => if b46 = true then bnd (ret (.lst s35)) fun x42 => lft (tru x42) else ret false) fun b47 => if b47 = true then bnd (bnd (bnd (ret v_at_7) fun x53 => bnd (bnd (bnd (ret (.lst s35)) fun x50 => lft (oLen x50)) fun x51 => bnd (ret (.int 1)) fun x52 => lft (oSub x51 x52)) fun x54 => lft (oMin2 x53 x54)) fun x55 => lft (popA s35 x55)) fun es49 => bnd (ret ()) fun _ => ret es49 else bnd (ret ()) fun _ => ret s35) fun s48 => bnd (bnd (bnd (bnd (ret v_kind_3) fun x57 => bnd (ret (.int 3)) fun x58 => lft (oEq x57 x58)) fun x59 => lft (asB x59)) fun b60 => if b60 = true then bnd (bnd (ret v_at_7) fun x66 => bnd (bnd (bnd (ret a_tones) fun x63 => bnd (ret []) fun ds64 => ret (x63 :: ds64)) fun ds65 => m__law_tone cells (ds65 ++ [])) fun x67 => lft (ins1 s48 x66 x67)) fun es62 => bnd (ret ()) fun _ => ret es62 else bnd (ret ()) fun _ => ret s48) fun s61 => bnd (bnd (bnd (bnd (bnd (ret v_kind_3) fun x72 => bnd (ret (.int 4)) fun x73 => lft (oEq x72 x73)) fun x74 => lft (asB x74)) fun b75 => if b75 = true then bnd (bnd (bnd (ret (.lst s61)) fun x68 => lft (oLen x68)) fun x69 => bnd (ret (.int 1)) fun x70 => lft (oGt x69 x70)) fun x71 => lft (asB x71) else ret false) fun b76 => if b76 = true then bnd (bnd (ret v_at_7) fun x82 => bnd (bnd (bnd (ret (.lst s61)) fun x79 => lft (oLen x79)) fun x80 => bnd (ret (.int 2)) fun x81 => lft (oSub x80 x81)) fun x83 => lft (oMin2 x82 x83)) fun v_place_78 => bnd (bnd (bnd (bnd (ret (.lst s61)) fun x90 => bnd (bnd (ret v_place_78) fun x88 => bnd (ret (.int 1)) fun x89 => lft (oAdd x88 x89)) fun x91 => lft (oIx x90 x91)) fun x92 => bnd (bnd (bnd (ret (.lst s61)) fun x84 => bnd (ret v_place_78) fun x85 => lft (oIx x84 x85)) fun x86 => bnd (ret []) fun ds87 => ret (x86 :: ds87)) fun ds93 => ret (x92 :: ds93)) fun us97 => bnd (lft (two us97)) fun u98 => bnd (ret v_place_78) fun x99 => bnd (lft (set1 s61 x99 u98.1)) fun us97b => bnd (bnd (ret v_place_78) fun x95 => bnd (ret (.int 1)) fun x96 => lft (oAdd x95 x96)) fun x100 => lft (set1 us97b x100 u98.2)) fun es94 => bnd (ret ()) fun _ => ret es94 else bnd (ret ()) fun _ => ret s61) fun s77 => bnd (bnd (bnd (bnd (bnd (ret v_kind_3) fun x102 => bnd (ret (.int 5)) fun x103 => lft (oEq x102 x103)) fun x104 => lft (asB x104)) fun b105 => if b105 = true then bnd (ret (.lst s77)) fun x101 => lft (tru x101) else ret false) fun b106 => if b106 = true then bnd (bnd (bnd (bnd (ret a_tones) fun x108 => bnd (ret []) fun ds109 => ret (x108 :: ds109)) fun ds110 => m__law_tone cells (ds110 ++ [])) fun x116 => bnd (bnd (ret v_at_7) fun x114 => bnd (bnd (bnd (ret (.lst s77)) fun x111 => lft (oLen x111)) fun x112 => bnd (ret (.int 1)) fun x113 => lft (oSub x112 x113)) fun x115 => lft (oMin2 x114 x115)) fun x117 => lft (set1 s77 x117 x116)) fun es118 => bnd (ret ()) fun _ => ret es118 else bnd (ret ()) fun _ => ret s77) fun s107 => bnd (ret (.lst s107)) fun x120 => bnd (ret none) fun lo121 => bnd (bnd (ret a_most) fun x119 => lft (oInt? x119)) fun hi122 => lft (oSl x120 lo121 hi122)
  | _ => stk
noncomputable def m__law_strip (S : Type) : List D → MS S D
  | [a_row_here, a_head] => bnd (bnd (bnd (ret a_row_here) fun x2 => bnd (ret []) fun ds3 => ret (x2 :: ds3)) fun ds4 => m__law_struck S (ds4 ++ [])) fun v_out_1 => bnd (bnd (bnd (bnd (ret a_head) fun x16 => bnd (ret .non) fun x17 => lft (oNis x16 x17)) fun x18 => lft (asB x18)) fun b19 => if b19 = true then bnd (bnd (bnd (ret v_out_1) fun x6 => bnd (ret none) fun lo7 => bnd (bnd (ret (.int 1)) fun x5 => lft (oInt? x5)) fun hi8 => lft (oSl x6 lo7 hi8)) fun x13 => bnd (bnd (bnd (bnd (ret a_head) fun x9 => bnd (ret []) fun ds10 => ret (x9 :: ds10)) fun ds11 => lft (mkL ds11)) fun ds12 => ret (.lst ds12)) fun x14 => lft (oEq x13 x14)) fun x15 => lft (asB x15) else ret false) fun b24 => if b24 = true then bnd (ret v_out_1) fun x21 => bnd (bnd (ret (.int 1)) fun x20 => lft (oInt? x20)) fun lo22 => bnd (ret none) fun hi23 => lft (oSl x21 lo22 hi23) else ret v_out_1
  | _ => stk
noncomputable def m__law_no_row (cells : List Int) : List D → MS Hd D
  | [a_row_here, a_most] => bnd (bnd (bnd (ret (.int 4)) fun x2 => bnd (ret []) fun ds3 => ret (x2 :: ds3)) fun ds4 => m__law_take cells (ds4 ++ [])) fun v_kind_1 => bnd (bnd (bnd (ret v_kind_1) fun x5 => bnd (ret (.int 0)) fun x6 => lft (oEq x5 x6)) fun x7 => lft (asB x7)) fun b8 => if b8 = true then bnd (bnd (bnd (bnd (bnd (bnd (bnd (ret .non) fun x19 => bnd (bnd (ret (.int 5)) fun x17 => bnd (bnd (ret (.str "012")) fun x15 => bnd (bnd (ret (.dct [])) fun x13 => bnd (bnd (ret (.bl true)) fun x11 => bnd (ret []) fun ds12 => ret (x11 :: ds12)) fun ds14 => ret (x13 :: ds14)) fun ds16 => ret (x15 :: ds16)) fun ds18 => ret (x17 :: ds18)) fun ds20 => ret (x19 :: ds20)) fun ds21 => lft (mkL ds21)) fun ds22 => ret (.lst ds22)) fun x23 => bnd (ret []) fun ds24 => ret (x23 :: ds24)) fun ds25 => m__law_pick cells (ds25 ++ [])) fun x26 => bnd (bnd (ret (.int 0)) fun x9 => bnd (ret []) fun ds10 => ret (x9 :: ds10)) fun ds27 => ret (x26 :: ds27)) fun ds28 => lft ((mkL ds28).map D.tup) else bnd (bnd (bnd (ret v_kind_1) fun x29 => bnd (ret (.int 1)) fun x30 => lft (oEq x29 x30)) fun x31 => lft (asB x31)) fun b32 => if b32 = true then bnd (bnd (bnd (bnd (bnd (bnd (bnd (ret a_most) fun x35 => bnd (ret (.int 1)) fun x36 => lft (oAdd x35 x36)) fun x37 => bnd (ret []) fun ds38 => ret (x37 :: ds38)) fun ds39 => lft (rg1 ds39)) fun ds44 => bnd (lft (mkL ds44)) fun ds45 => lcM un1 (fun t40 => ret true) (fun t40 => bnd (bnd (ret t40) fun x41 => lft (oIntOf x41)) fun x42 => bnd (ret (.int 3)) fun x43 => lft (oMod x42 x43)) ds45) fun ds46 => ret (.lst ds46)) fun x47 => bnd (bnd (ret (.int 0)) fun x33 => bnd (ret []) fun ds34 => ret (x33 :: ds34)) fun ds48 => ret (x47 :: ds48)) fun ds49 => lft ((mkL ds49).map D.tup) else bnd (bnd (bnd (bnd (ret a_row_here) fun x51 => lft (items x51)) fun ds52 => ret (.lst ds52)) fun x56 => bnd (ret none) fun lo57 => bnd (bnd (bnd (ret a_most) fun x53 => bnd (ret (.int 1)) fun x54 => lft (oSub x53 x54)) fun x55 => lft (oInt? x55)) fun hi58 => lft (oSlL x56 lo57 hi58)) fun v_out_50 => bnd (bnd (bnd (bnd (bnd (ret (.lst v_out_50)) fun x60 => lft (oLen x60)) fun x61 => bnd (ret (.int 1)) fun x62 => lft (oAdd x61 x62)) fun x63 => bnd (ret []) fun ds64 => ret (x63 :: ds64)) fun ds65 => m__law_take cells (ds65 ++ [])) fun v_at_59 => bnd (bnd (ret v_at_59) fun x92 => bnd (bnd (bnd (bnd (bnd (bnd (ret .non) fun x85 => bnd (bnd (ret (.bl true)) fun x83 => bnd (bnd (bnd (ret (.int 1)) fun x80 => lft (oNeg x80)) fun x81 => bnd (bnd (ret (.int 100)) fun x78 => bnd (bnd (ret (.str "1")) fun x76 => bnd (bnd (bnd (bnd (ret (.int 1)) fun x71 => bnd (ret []) fun ds72 => ret (x71 :: ds72)) fun ds73 => lft ((mkL ds73).map D.tup)) fun x74 => bnd (bnd (bnd (ret (.int 10)) fun x67 => bnd (ret (.int 20)) fun x68 => lft (oPow x67 x68)) fun x69 => bnd (ret []) fun ds70 => ret (x69 :: ds70)) fun ds75 => ret (x74 :: ds75)) fun ds77 => ret (x76 :: ds77)) fun ds79 => ret (x78 :: ds79)) fun ds82 => ret (x81 :: ds82)) fun ds84 => ret (x83 :: ds84)) fun ds86 => ret (x85 :: ds86)) fun ds87 => lft (mkL ds87)) fun ds88 => ret (.lst ds88)) fun x89 => bnd (ret []) fun ds90 => ret (x89 :: ds90)) fun ds91 => m__law_pick cells (ds91 ++ [])) fun x93 => lft (ins1 v_out_50 x92 x93)) fun es66 => bnd (bnd (bnd (bnd (ret v_kind_1) fun x97 => bnd (ret (.int 3)) fun x98 => lft (oEq x97 x98)) fun x99 => lft (asB x99)) fun b100 => if b100 = true then bnd (bnd (ret v_at_59) fun x94 => bnd (ret (.int 0)) fun x95 => lft (oGt x94 x95)) fun x96 => lft (asB x96) else ret false) fun b101 => if b101 = true then bnd (bnd (bnd (ret (.lst es66)) fun x104 => bnd (ret none) fun lo105 => bnd (bnd (ret v_at_59) fun x103 => lft (oInt? x103)) fun hi106 => lft (oSl x104 lo105 hi106)) fun x111 => bnd (bnd (bnd (bnd (ret (.int 1)) fun x107 => bnd (ret []) fun ds108 => ret (x107 :: ds108)) fun ds109 => lft (mkL ds109)) fun ds110 => ret (.lst ds110)) fun x112 => lft (oAdd x111 x112)) fun v_late_102 => bnd (bnd (bnd (bnd (ret v_late_102) fun x113 => lft (oLen x113)) fun x114 => bnd (ret a_most) fun x115 => lft (oLt x114 x115)) fun x116 => lft (asB x116)) fun b137 => if b137 = true then bnd (bnd (bnd (bnd (ret v_late_102) fun x125 => bnd (bnd (bnd (bnd (ret (.bl false)) fun x121 => bnd (ret []) fun ds122 => ret (x121 :: ds122)) fun ds123 => lft (mkL ds123)) fun ds124 => ret (.lst ds124)) fun x126 => lft (oAdd x125 x126)) fun x127 => lft (oTuple x127)) fun x128 => bnd (bnd (bnd (ret v_at_59) fun x117 => bnd (ret (.int 1)) fun x118 => lft (oAdd x117 x118)) fun x119 => bnd (ret []) fun ds120 => ret (x119 :: ds120)) fun ds129 => ret (x128 :: ds129)) fun ds130 => lft ((mkL ds130).map D.tup) else bnd (bnd (bnd (ret (.lst es66)) fun x133 => lft (oTuple x133)) fun x134 => bnd (bnd (ret v_at_59) fun x131 => bnd (ret []) fun ds132 => ret (x131 :: ds132)) fun ds135 => ret (x134 :: ds135)) fun ds136 => lft ((mkL ds136).map D.tup) else bnd (bnd (ret (.lst es66)) fun x142 => bnd (bnd (ret v_at_59) fun x140 => bnd (ret []) fun ds141 => ret (x140 :: ds141)) fun ds143 => ret (x142 :: ds143)) fun ds144 => lft ((mkL ds144).map D.tup)
  | _ => stk
noncomputable def m__law_places (S : Type) : List D → MS S D
  | [a_row_here, a_within] => bnd (bnd (ret []) fun ds2 => lft (mkL ds2)) fun v_found_1 => bnd (ret (.int 0)) fun v_begin_3 => bnd (bnd (bnd (ret a_row_here) fun x41 => lft (items x41)) fun ds40 => forF un1 (fun (t6 : D) (s5 : List D × D) => bnd (bnd (bnd (bnd (bnd (ret s5.2) fun x11 => bnd (bnd (bnd (ret a_within) fun x8 => lft (oLen x8)) fun x9 => bnd (ret []) fun ds10 => ret (x9 :: ds10)) fun ds12 => ret (x11 :: ds12)) fun ds13 => lft (rg2 ds13)) fun ds20 => bnd (lft (mkL ds20)) fun ds21 => lcM un1 (fun t14 => bnd (bnd (bnd (ret a_within) fun x15 => bnd (ret t14) fun x16 => lft (oIx x15 x16)) fun x17 => bnd (ret t6) fun x18 => lft (oEq x17 x18)) fun x19 => lft (asB x19)) (fun t14 => ret t14) ds21) fun ds22 => ret (.lst ds22)) fun v_here_7 => bnd (bnd (bnd (ret v_here_7) fun x25 => bnd (bnd (bnd (ret []) fun ds23 => lft (mkL ds23)) fun ds24 => ret (.lst ds24)) fun x26 => lft (oEq x25 x26)) fun x27 => lft (asB x27)) fun b28 => if b28 = true then bnd (bnd (ret .non) fun a => ret (Fx.rt a)) (fun r => ret r.up) else bnd (bnd (bnd (ret v_here_7) fun x30 => bnd (ret (.int 0)) fun x31 => lft (oIx x30 x31)) fun x32 => lft (app1 s5.1 x32)) fun es29 => bnd (bnd (bnd (ret v_here_7) fun x35 => bnd (ret (.int 0)) fun x36 => lft (oIx x35 x36)) fun x37 => bnd (ret (.int 1)) fun x38 => lft (oAdd x37 x38)) fun v_begin_34 => bnd (ret ()) fun _ => ret (Fl.nx (es29, v_begin_34))) ds40 (v_found_1, v_begin_3)) (frD fun s5 => bnd (ret (.lst s5.1)) fun x39 => lft (oTuple x39))
  | _ => stk
noncomputable def m__law_asked (S : Type) : List D → MS S D
  | [a_kind, a_row_here, a_within, a_first] => tryM 2 (bnd (bnd (bnd (ret a_kind) fun x1 => bnd (ret (.int 0)) fun x2 => lft (oEq x1 x2)) fun x3 => lft (asB x3)) fun b4 => if b4 = true then bnd (bnd (ret a_row_here) fun x5 => bnd (ret []) fun ds6 => ret (x5 :: ds6)) fun ds7 => m_struck_row S (ds7 ++ []) else bnd (bnd (bnd (ret a_kind) fun x8 => bnd (ret (.int 1)) fun x9 => lft (oEq x8 x9)) fun x10 => lft (asB x10)) fun b11 => if b11 = true then bnd (bnd (ret a_row_here) fun x14 => bnd (bnd (ret a_within) fun x12 => bnd (ret []) fun ds13 => ret (x12 :: ds13)) fun ds15 => ret (x14 :: ds15)) fun ds16 => m_hidden_places S (ds16 ++ []) else bnd (bnd (bnd (ret a_kind) fun x17 => bnd (ret (.int 2)) fun x18 => lft (oEq x17 x18)) fun x19 => lft (asB x19)) fun b20 => if b20 = true then bnd (bnd (ret a_row_here) fun x23 => bnd (bnd (ret a_within) fun x21 => bnd (ret []) fun ds22 => ret (x21 :: ds22)) fun ds24 => ret (x23 :: ds24)) fun ds25 => m_is_hidden S (ds25 ++ []) else bnd (bnd (ret a_row_here) fun x28 => bnd (bnd (ret a_first) fun x26 => bnd (ret []) fun ds27 => ret (x26 :: ds27)) fun ds29 => ret (x28 :: ds29)) fun ds30 => m_least_equal_row S (ds30 ++ [])) [(1, fun fs37 => bnd (bnd (ret (.str "row")) fun x40 => bnd (bnd (lft (fld (fnZ 1) fs37 "index")) fun x38 => bnd (ret []) fun ds39 => ret (x38 :: ds39)) fun ds41 => ret (x40 :: ds41)) fun ds42 => lft ((mkL ds42).map D.tup)), (0, fun fs31 => bnd (bnd (ret (.str "colour")) fun x34 => bnd (bnd (lft (fld (fnZ 0) fs31 "colour")) fun x32 => bnd (ret []) fun ds33 => ret (x32 :: ds33)) fun ds35 => ret (x34 :: ds35)) fun ds36 => lft ((mkL ds36).map D.tup))]
  | _ => stk
noncomputable def m__law_refusals (cells : List Int) : List D → MS Hd D
  | [a_row_here, a_within] => bnd (bnd (bnd (bnd (ret a_row_here) fun x3 => bnd (bnd (ret (.int 40)) fun x1 => bnd (ret []) fun ds2 => ret (x1 :: ds2)) fun ds4 => ret (x3 :: ds4)) fun ds5 => m__law_no_row cells (ds5 ++ [])) fun x7 => lft (un2 x7)) fun t6 => bnd (bnd (bnd (bnd (ret a_within) fun x10 => bnd (bnd (ret (.int 40)) fun x8 => bnd (ret []) fun ds9 => ret (x8 :: ds9)) fun ds11 => ret (x10 :: ds11)) fun ds12 => m__law_no_row cells (ds12 ++ [])) fun x14 => lft (un2 x14)) fun t13 => bnd (bnd (bnd (bnd (bnd (bnd (bnd (ret (.int 1)) fun x38 => lft (oNeg x38)) fun x39 => bnd (bnd (ret (.int 100)) fun x36 => bnd (bnd (ret (.bl true)) fun x34 => bnd (bnd (ret (.str "1")) fun x32 => bnd (bnd (bnd (bnd (ret (.int 1)) fun x27 => bnd (ret []) fun ds28 => ret (x27 :: ds28)) fun ds29 => lft ((mkL ds29).map D.tup)) fun x30 => bnd (bnd (bnd (ret (.int 10)) fun x23 => bnd (ret (.int 20)) fun x24 => lft (oPow x23 x24)) fun x25 => bnd (bnd (bnd (bnd (ret (.int 2)) fun x18 => bnd (bnd (ret (.int 3)) fun x16 => bnd (ret []) fun ds17 => ret (x16 :: ds17)) fun ds19 => ret (x18 :: ds19)) fun ds20 => lft ((mkL ds20).map D.tup)) fun x21 => bnd (ret []) fun ds22 => ret (x21 :: ds22)) fun ds26 => ret (x25 :: ds26)) fun ds31 => ret (x30 :: ds31)) fun ds33 => ret (x32 :: ds33)) fun ds35 => ret (x34 :: ds35)) fun ds37 => ret (x36 :: ds37)) fun ds40 => ret (x39 :: ds40)) fun ds41 => lft (mkL ds41)) fun ds42 => ret (.lst ds42)) fun x43 => bnd (ret []) fun ds44 => ret (x43 :: ds44)) fun ds45 => m__law_pick cells (ds45 ++ [])) fun v_odd_15 => bnd (bnd (bnd (bnd (bnd (bnd (ret (.int 0)) fun x69 => bnd (bnd (ret t6.1) fun x67 => bnd (bnd (ret .non) fun x65 => bnd (bnd (ret .non) fun x63 => bnd (ret []) fun ds64 => ret (x63 :: ds64)) fun ds66 => ret (x65 :: ds66)) fun ds68 => ret (x67 :: ds68)) fun ds70 => ret (x69 :: ds70)) fun ds71 => m__law_asked Hd (ds71 ++ [])) fun x77 => bnd (bnd (bnd (ret (.str "row")) fun x74 => bnd (bnd (ret t6.2) fun x72 => bnd (ret []) fun ds73 => ret (x72 :: ds73)) fun ds75 => ret (x74 :: ds75)) fun ds76 => lft ((mkL ds76).map D.tup)) fun x78 => lft (oNe x77 x78)) fun x79 => lft (asB x79)) fun b80 => if b80 = true then ret true else bnd (bnd (bnd (bnd (ret (.int 3)) fun x52 => bnd (bnd (ret t6.1) fun x50 => bnd (bnd (ret .non) fun x48 => bnd (bnd (ret v_odd_15) fun x46 => bnd (ret []) fun ds47 => ret (x46 :: ds47)) fun ds49 => ret (x48 :: ds49)) fun ds51 => ret (x50 :: ds51)) fun ds53 => ret (x52 :: ds53)) fun ds54 => m__law_asked Hd (ds54 ++ [])) fun x60 => bnd (bnd (bnd (ret (.str "row")) fun x57 => bnd (bnd (ret t6.2) fun x55 => bnd (ret []) fun ds56 => ret (x55 :: ds56)) fun ds58 => ret (x57 :: ds58)) fun ds59 => lft ((mkL ds59).map D.tup)) fun x61 => lft (oNe x60 x61)) fun x62 => lft (asB x62)) fun b81 => if b81 = true then ret (.bl false) else bnd (bnd (bnd (bnd (bnd (ret (.int 1)) fun x145 => bnd (bnd (ret (.int 2)) fun x143 => bnd (ret []) fun ds144 => ret (x143 :: ds144)) fun ds146 => ret (x145 :: ds146)) fun ds147 => lft ((mkL ds147).map D.tup)) fun x148 => lft (items x148)) fun ds142 => forF un1 (fun (t89 : D) (s88 : Unit) => bnd (bnd (bnd (bnd (bnd (bnd (ret t89) fun x113 => bnd (bnd (ret t6.1) fun x111 => bnd (bnd (ret t13.1) fun x109 => bnd (bnd (ret .non) fun x107 => bnd (ret []) fun ds108 => ret (x107 :: ds108)) fun ds110 => ret (x109 :: ds110)) fun ds112 => ret (x111 :: ds112)) fun ds114 => ret (x113 :: ds114)) fun ds115 => m__law_asked Hd (ds115 ++ [])) fun x121 => bnd (bnd (bnd (ret (.str "row")) fun x118 => bnd (bnd (ret t6.2) fun x116 => bnd (ret []) fun ds117 => ret (x116 :: ds117)) fun ds119 => ret (x118 :: ds119)) fun ds120 => lft ((mkL ds120).map D.tup)) fun x122 => lft (oNe x121 x122)) fun x123 => lft (asB x123)) fun b124 => if b124 = true then ret true else bnd (bnd (bnd (bnd (ret t89) fun x96 => bnd (bnd (ret a_row_here) fun x94 => bnd (bnd (ret t13.1) fun x92 => bnd (bnd (ret .non) fun x90 => bnd (ret []) fun ds91 => ret (x90 :: ds91)) fun ds93 => ret (x92 :: ds93)) fun ds95 => ret (x94 :: ds95)) fun ds97 => ret (x96 :: ds97)) fun ds98 => m__law_asked Hd (ds98 ++ [])) fun x104 => bnd (bnd (bnd (ret (.str "row")) fun x101 => bnd (bnd (ret t13.2) fun x99 => bnd (ret []) fun ds100 => ret (x99 :: ds100)) fun ds102 => ret (x101 :: ds102)) fun ds103 => lft ((mkL ds103).map D.tup)) fun x105 => lft (oNe x104 x105)) fun x106 => lft (asB x106)) fun b125 => if b125 = true then bnd (ret (.bl false)) fun a => ret (Fl.rt a) else bnd (ret ()) fun _ => ret (Fl.nx ())) ds142 ()) (frD fun s88 => bnd (bnd (bnd (ret (.int 3)) fun x132 => bnd (bnd (ret a_row_here) fun x130 => bnd (bnd (ret .non) fun x128 => bnd (bnd (ret v_odd_15) fun x126 => bnd (ret []) fun ds127 => ret (x126 :: ds127)) fun ds129 => ret (x128 :: ds129)) fun ds131 => ret (x130 :: ds131)) fun ds133 => ret (x132 :: ds133)) fun ds134 => m__law_asked Hd (ds134 ++ [])) fun x140 => bnd (bnd (bnd (ret (.str "colour")) fun x137 => bnd (bnd (ret v_odd_15) fun x135 => bnd (ret []) fun ds136 => ret (x135 :: ds136)) fun ds138 => ret (x137 :: ds138)) fun ds139 => lft ((mkL ds139).map D.tup)) fun x141 => lft (oEq x140 x141))
  | _ => stk
noncomputable def m__law_right (S : Type) : List D → MS S D
  | [a_row_here, a_within, a_first] => bnd (bnd (bnd (ret a_row_here) fun x2 => bnd (ret []) fun ds3 => ret (x2 :: ds3)) fun ds4 => m_struck_row S (ds4 ++ [])) fun v_struck_here_1 => bnd (bnd (bnd (bnd (ret v_struck_here_1) fun x21 => bnd (bnd (bnd (bnd (ret a_row_here) fun x17 => bnd (ret []) fun ds18 => ret (x17 :: ds18)) fun ds19 => m__law_struck S (ds19 ++ [])) fun x20 => lft (oTuple x20)) fun x22 => lft (oNe x21 x22)) fun x23 => lft (asB x23)) fun b24 => if b24 = true then ret true else bnd (bnd (bnd (bnd (bnd (ret v_struck_here_1) fun x11 => bnd (ret []) fun ds12 => ret (x11 :: ds12)) fun ds13 => m__law_tuples 3 S (ds13 ++ [])) fun x14 => lft (tru x14)) fun b15 => ret (!b15)) fun b16 => if b16 = true then ret true else bnd (bnd (bnd (bnd (ret v_struck_here_1) fun x5 => bnd (ret []) fun ds6 => ret (x5 :: ds6)) fun ds7 => m_struck_row S (ds7 ++ [])) fun x8 => bnd (ret v_struck_here_1) fun x9 => lft (oNe x8 x9)) fun x10 => lft (asB x10)) fun b25 => if b25 = true then ret (.bl false) else bnd (bnd (bnd (ret a_row_here) fun x29 => bnd (bnd (ret a_within) fun x27 => bnd (ret []) fun ds28 => ret (x27 :: ds28)) fun ds30 => ret (x29 :: ds30)) fun ds31 => m__law_places S (ds31 ++ [])) fun v_due_26 => bnd (bnd (bnd (bnd (ret a_row_here) fun x35 => lft (oTuple x35)) fun x36 => bnd (bnd (ret a_within) fun x33 => bnd (ret []) fun ds34 => ret (x33 :: ds34)) fun ds37 => ret (x36 :: ds37)) fun ds38 => m_hidden_places S (ds38 ++ [])) fun v_told_32 => bnd (bnd (bnd (bnd (ret v_told_32) fun x64 => bnd (ret v_due_26) fun x65 => lft (oNe x64 x65)) fun x66 => lft (asB x66)) fun b67 => if b67 = true then ret true else bnd (bnd (bnd (bnd (ret v_told_32) fun x59 => bnd (ret .non) fun x60 => lft (oNis x59 x60)) fun x61 => lft (asB x61)) fun b62 => if b62 = true then bnd (bnd (bnd (bnd (ret v_told_32) fun x54 => bnd (ret []) fun ds55 => ret (x54 :: ds55)) fun ds56 => m__law_tuples 3 S (ds56 ++ [])) fun x57 => lft (tru x57)) fun b58 => ret (!b58) else ret false) fun b63 => if b63 = true then ret true else bnd (bnd (bnd (bnd (bnd (bnd (ret a_row_here) fun x46 => bnd (bnd (bnd (ret a_within) fun x43 => lft (oTuple x43)) fun x44 => bnd (ret []) fun ds45 => ret (x44 :: ds45)) fun ds47 => ret (x46 :: ds47)) fun ds48 => m_is_hidden S (ds48 ++ [])) fun x49 => bnd (bnd (bnd (ret v_due_26) fun x39 => bnd (ret .non) fun x40 => lft (oNis x39 x40)) fun x41 => bnd (ret []) fun ds42 => ret (x41 :: ds42)) fun ds50 => ret (x49 :: ds50)) fun ds51 => m__law_says S (ds51 ++ [])) fun x52 => lft (tru x52)) fun b53 => ret (!b53)) fun b68 => if b68 = true then ret (.bl false) else bnd (bnd (bnd (ret a_row_here) fun x72 => bnd (bnd (ret a_first) fun x70 => bnd (ret []) fun ds71 => ret (x70 :: ds71)) fun ds73 => ret (x72 :: ds73)) fun ds74 => m__law_strip S (ds74 ++ [])) fun v_inner_69 => bnd (bnd (bnd (bnd (ret a_first) fun x76 => bnd (ret .non) fun x77 => lft (oIs x76 x77)) fun x78 => lft (asB x78)) fun b87 => if b87 = true then bnd (bnd (ret a_row_here) fun x79 => bnd (ret []) fun ds80 => ret (x79 :: ds80)) fun ds81 => m_least_equal_row S (ds81 ++ [.non]) else bnd (bnd (ret a_row_here) fun x84 => bnd (bnd (ret a_first) fun x82 => bnd (ret []) fun ds83 => ret (x82 :: ds83)) fun ds85 => ret (x84 :: ds85)) fun ds86 => m_least_equal_row S (ds86 ++ [])) fun v_least_75 => bnd (bnd (ret v_least_75) fun x102 => bnd (bnd (ret v_inner_69) fun x101 => lft (oTuple x101)) fun x103 => lft (oEq x102 x103)) fun x104 => bnd (lft (asB x104)) fun b105 => if b105 = true then bnd (bnd (bnd (ret v_least_75) fun x96 => bnd (ret []) fun ds97 => ret (x96 :: ds97)) fun ds98 => m__law_tuples 3 S (ds98 ++ [])) fun x99 => bnd (lft (asB x99)) fun b100 => if b100 = true then bnd (bnd (bnd (ret v_least_75) fun x88 => bnd (ret []) fun ds89 => ret (x88 :: ds89)) fun ds92 => bnd (bnd (ret a_first) fun x90 => bnd (ret []) fun ds91 => ret (x90 :: ds91)) fun es93 => if ds92.length = 1 ∧ es93.length = 1 then m_least_equal_row S (ds92 ++ es93) else stk) fun x94 => bnd (ret v_least_75) fun x95 => lft (oEq x94 x95) else ret (.bl false) else ret (.bl false)
  | _ => stk
noncomputable def m_law (cells : List Int) : MS Hd D := bnd (bnd (bnd (bnd (ret (.int 3)) fun x183 => bnd (ret []) fun ds184 => ret (x183 :: ds184)) fun ds185 => lft (rg1 ds185)) fun ds182 => forF un1 (fun (t5 : D) (s4 : Unit) => bnd (bnd (bnd (bnd (bnd (bnd (ret (.int 2)) fun x15 => bnd (bnd (ret (.int 3)) fun x13 => bnd (bnd (ret (.int 3)) fun x11 => bnd (bnd (ret (.int 4)) fun x9 => bnd (bnd (ret (.int 9)) fun x7 => bnd (ret []) fun ds8 => ret (x7 :: ds8)) fun ds10 => ret (x9 :: ds10)) fun ds12 => ret (x11 :: ds12)) fun ds14 => ret (x13 :: ds14)) fun ds16 => ret (x15 :: ds16)) fun ds17 => lft (mkL ds17)) fun ds18 => ret (.lst ds18)) fun x19 => bnd (ret []) fun ds20 => ret (x19 :: ds20)) fun ds21 => m__law_pick cells (ds21 ++ [])) fun v_tones_6 => bnd (bnd (bnd (bnd (bnd (bnd (ret (.int 8)) fun x23 => bnd (ret []) fun ds24 => ret (x23 :: ds24)) fun ds25 => m__law_take cells (ds25 ++ [])) fun x26 => bnd (ret (.int 0)) fun x27 => lft (oEq x26 x27)) fun x28 => lft (asB x28)) fun b29 => if b29 = true then ret (.int 40) else ret (.int 9)) fun v_most_22 => bnd (bnd (bnd (ret v_most_22) fun x33 => bnd (bnd (ret v_tones_6) fun x31 => bnd (ret []) fun ds32 => ret (x31 :: ds32)) fun ds34 => ret (x33 :: ds34)) fun ds35 => m__law_row cells (ds35 ++ [])) fun v_within_30 => bnd (bnd (bnd (bnd (bnd (ret v_most_22) fun x42 => bnd (ret (.int 40)) fun x43 => lft (oEq x42 x43)) fun x44 => lft (asB x44)) fun b45 => if b45 = true then bnd (bnd (bnd (bnd (ret (.int 2)) fun x36 => bnd (ret []) fun ds37 => ret (x36 :: ds37)) fun ds38 => m__law_take cells (ds38 ++ [])) fun x39 => bnd (ret (.int 0)) fun x40 => lft (oEq x39 x40)) fun x41 => lft (asB x41) else ret false) fun b46 => if b46 = true then bnd (bnd (bnd (bnd (bnd (ret (.int 40)) fun x49 => bnd (ret []) fun ds50 => ret (x49 :: ds50)) fun ds51 => lft (rg1 ds51)) fun ds56 => bnd (lft (mkL ds56)) fun ds57 => lcM un1 (fun t52 => ret true) (fun t52 => bnd (bnd (ret v_tones_6) fun x53 => bnd (ret []) fun ds54 => ret (x53 :: ds54)) fun ds55 => m__law_tone cells (ds55 ++ [])) ds57) fun ds58 => ret (.lst ds58)) fun v_within_48 => bnd (ret ()) fun _ => ret v_within_48 else bnd (ret ()) fun _ => ret v_within_30) fun s47 => bnd (bnd (bnd (bnd (ret s47) fun x60 => lft (items x60)) fun ds68 => bnd (lft (mkL ds68)) fun ds69 => lcM un1 (fun t61 => bnd (bnd (bnd (bnd (ret (.int 2)) fun x62 => bnd (ret []) fun ds63 => ret (x62 :: ds63)) fun ds64 => m__law_take cells (ds64 ++ [])) fun x65 => bnd (ret (.int 0)) fun x66 => lft (oEq x65 x66)) fun x67 => lft (asB x67)) (fun t61 => ret t61) ds69) fun ds70 => ret (.lst ds70)) fun v_row_here_59 => bnd (bnd (bnd (bnd (bnd (bnd (ret (.int 3)) fun x71 => bnd (ret []) fun ds72 => ret (x71 :: ds72)) fun ds73 => m__law_take cells (ds73 ++ [])) fun x74 => bnd (ret (.int 0)) fun x75 => lft (oEq x74 x75)) fun x76 => lft (asB x76)) fun b77 => if b77 = true then bnd (bnd (bnd (ret v_row_here_59) fun x84 => bnd (bnd (ret v_tones_6) fun x82 => bnd (bnd (ret (.int 40)) fun x80 => bnd (ret []) fun ds81 => ret (x80 :: ds81)) fun ds83 => ret (x82 :: ds83)) fun ds85 => ret (x84 :: ds85)) fun ds86 => m__law_varied cells (ds86 ++ [])) fun v_row_here_79 => bnd (ret ()) fun _ => ret v_row_here_79 else bnd (ret ()) fun _ => ret v_row_here_59) fun s78 => bnd (bnd (bnd (bnd (bnd (bnd (ret (.int 5)) fun x87 => bnd (ret []) fun ds88 => ret (x87 :: ds88)) fun ds89 => m__law_take cells (ds89 ++ [])) fun x90 => bnd (ret (.int 0)) fun x91 => lft (oEq x90 x91)) fun x92 => lft (asB x92)) fun b93 => if b93 = true then bnd (bnd (bnd (ret s47) fun x100 => bnd (bnd (ret v_tones_6) fun x98 => bnd (bnd (ret (.int 40)) fun x96 => bnd (ret []) fun ds97 => ret (x96 :: ds97)) fun ds99 => ret (x98 :: ds99)) fun ds101 => ret (x100 :: ds101)) fun ds102 => m__law_varied cells (ds102 ++ [])) fun v_row_here_95 => bnd (ret ()) fun _ => ret v_row_here_95 else bnd (ret ()) fun _ => ret s78) fun s94 => bnd (bnd (bnd (bnd (bnd (bnd (ret .non) fun x118 => bnd (bnd (ret (.int 0)) fun x116 => bnd (bnd (ret (.int 1)) fun x114 => bnd (bnd (bnd (bnd (ret s94) fun x108 => bnd (bnd (bnd (bnd (ret (.int 99)) fun x104 => bnd (ret []) fun ds105 => ret (x104 :: ds105)) fun ds106 => lft (mkL ds106)) fun ds107 => ret (.lst ds107)) fun x109 => lft (oAdd x108 x109)) fun x110 => bnd (ret (.int 0)) fun x111 => lft (oIx x110 x111)) fun x112 => bnd (ret []) fun ds113 => ret (x112 :: ds113)) fun ds115 => ret (x114 :: ds115)) fun ds117 => ret (x116 :: ds117)) fun ds119 => ret (x118 :: ds119)) fun ds120 => lft (mkL ds120)) fun ds121 => ret (.lst ds121)) fun x122 => bnd (ret []) fun ds123 => ret (x122 :: ds123)) fun ds124 => m__law_pick cells (ds124 ++ [])) fun v_first_103 => bnd (bnd (bnd (bnd (bnd (ret s94) fun x130 => lft (items x130)) fun ds131 => ret (.lst ds131)) fun x132 => bnd (bnd (bnd (bnd (ret s47) fun x126 => lft (items x126)) fun ds127 => ret (.lst ds127)) fun x128 => bnd (ret []) fun ds129 => ret (x128 :: ds129)) fun ds133 => ret (x132 :: ds133)) fun ds134 => lft ((mkL ds134).map D.tup)) fun v_kept_125 => bnd (bnd (bnd (bnd (bnd (bnd (ret s94) fun x148 => bnd (bnd (ret s47) fun x146 => bnd (bnd (ret v_first_103) fun x144 => bnd (ret []) fun ds145 => ret (x144 :: ds145)) fun ds147 => ret (x146 :: ds147)) fun ds149 => ret (x148 :: ds149)) fun ds150 => m__law_right Hd (ds150 ++ [])) fun x151 => lft (tru x151)) fun b152 => ret (!b152)) fun b153 => if b153 = true then ret true else bnd (bnd (bnd (bnd (ret s47) fun x139 => bnd (bnd (ret s94) fun x137 => bnd (bnd (ret v_first_103) fun x135 => bnd (ret []) fun ds136 => ret (x135 :: ds136)) fun ds138 => ret (x137 :: ds138)) fun ds140 => ret (x139 :: ds140)) fun ds141 => m__law_right Hd (ds141 ++ [])) fun x142 => lft (tru x142)) fun b143 => ret (!b143)) fun b154 => if b154 = true then bnd (bnd (ret (.bl false)) fun a => ret (Fx.rt a)) (fun r => ret r.up) else bnd (bnd (bnd (bnd (bnd (bnd (ret s94) fun x175 => bnd (bnd (ret s47) fun x173 => bnd (ret []) fun ds174 => ret (x173 :: ds174)) fun ds176 => ret (x175 :: ds176)) fun ds177 => m__law_refusals cells (ds177 ++ [])) fun x178 => lft (tru x178)) fun b179 => ret (!b179)) fun b180 => if b180 = true then ret true else bnd (bnd (bnd (bnd (bnd (ret s94) fun x167 => bnd (bnd (ret s47) fun x165 => bnd (bnd (ret v_first_103) fun x163 => bnd (ret []) fun ds164 => ret (x163 :: ds164)) fun ds166 => ret (x165 :: ds166)) fun ds168 => ret (x167 :: ds168)) fun ds169 => m__law_right Hd (ds169 ++ [])) fun x170 => lft (tru x170)) fun b171 => ret (!b171)) fun b172 => if b172 = true then ret true else bnd (bnd (bnd (bnd (ret s94) fun x157 => bnd (bnd (ret s47) fun x155 => bnd (ret []) fun ds156 => ret (x155 :: ds156)) fun ds158 => ret (x157 :: ds158)) fun ds159 => lft ((mkL ds159).map D.tup)) fun x160 => bnd (ret v_kept_125) fun x161 => lft (oNe x160 x161)) fun x162 => lft (asB x162)) fun b181 => if b181 = true then bnd (ret (.bl false)) fun a => ret (Fl.rt a) else bnd (ret ()) fun _ => ret (Fl.nx ())) ds182 ()) (frD fun s4 => ret (.bl true))
section
variable {P : Program} {w : World} {K : PySem.W.Frag} {mg : Str → Option Value} {base : Heap} {A : Ad}
theorem exZ (T : Tx K mg A) : ∀ c c', c < 2 → c' < 2 → PySem.W.exmOne K (.ref ((Zo K A).cl c)) (.ref ((Zo K A).cl c')) = some (decide (c = c')) := T.ex
theorem okD_BadColour_ok (K : PySem.W.Frag) (A : Ad) : ∀ (G : Hp) (ys : List V) (ds : List D), RpAll (Zo K A) G ys ds → okD_BadColour ds = true → ds.length = ((Zo K A).fn 0).length ∧ ((Zo K A).fn 0).length ≤ 1000 ∧ ok_i_BadColour ys := fun G ys ds r h => by
  match ds, r, h with
    | [], _, h => exact Bool.noConfusion (show false = true from h)
    | _ :: _ :: _, _, h => exact Bool.noConfusion (show false = true from h)
    | [v0], r, h =>
    cases r with | cons r0 r =>  cases r; exact ⟨rfl, (show 1 ≤ 1000 by decide), trivial⟩
theorem sc_BadColour : FnScope ["self", "colour"] ["self", "colour"] (defScope s_BadColour) := ⟨rfl, rfl, rfl, by decide +kernel, rfl, by decide +kernel, by decide +kernel⟩
theorem oki_BadColour (T : Tx K mg A) : FnOk P w K mg base (L2.CX P w) 1 A.i_BadColour A.di_BadColour ["self", "colour"] (spIni ((Zo K A).cl 0) ((Zo K A).fn 0) ok_i_BadColour) :=
  T.FI_BadColour.ok sc_BadColour (fun vs H Q E h => by obtain ⟨a, ys, rfl, hl, _⟩ := h; rw [List.length_cons, hl]; rfl) fun cdv A' outer s H vs Q E hr h => by
    obtain ⟨a, ys, rfl, hl, ho, ha, kk⟩ := h
    match ys, hl, ho, kk with
    | [], _, ho, _ => exact ho.elim
    | _ :: _ :: _, _, ho, _ => exact ho.elim
    | [v0], hl, ho, kk =>
    refine ⟨_, pss_cons (ps_expr (pe_base T.base rfl (by exact (pa_cons (pv 0) (pa_cons pe_str pa_nil))))) (pss_one (ps_ost (pv 0) (pv 1))), ?_⟩
    exact ini1 T.o_BadColour T.h_BadColour_colour ⟨a, [v0], rfl, hl, ho, ha, kk⟩ fun ho σ hs H' R z => by subst hs; exact z _
theorem okD_BadRow_ok (K : PySem.W.Frag) (A : Ad) : ∀ (G : Hp) (ys : List V) (ds : List D), RpAll (Zo K A) G ys ds → okD_BadRow ds = true → ds.length = ((Zo K A).fn 1).length ∧ ((Zo K A).fn 1).length ≤ 1000 ∧ ok_i_BadRow ys := fun G ys ds r h => by
  match ds, r, h with
    | [], _, h => exact Bool.noConfusion (show false = true from h)
    | _ :: _ :: _, _, h => exact Bool.noConfusion (show false = true from h)
    | [v0], r, h =>
    cases r with | cons r0 r =>  cases r; exact ⟨rfl, (show 1 ≤ 1000 by decide), fmt_of r0 h⟩
theorem sc_BadRow : FnScope ["self", "index"] ["self", "index"] (defScope s_BadRow) := ⟨rfl, rfl, rfl, by decide +kernel, rfl, by decide +kernel, by decide +kernel⟩
theorem oki_BadRow (T : Tx K mg A) : FnOk P w K mg base (L2.CX P w) 1 A.i_BadRow A.di_BadRow ["self", "index"] (spIni ((Zo K A).cl 1) ((Zo K A).fn 1) ok_i_BadRow) :=
  T.FI_BadRow.ok sc_BadRow (fun vs H Q E h => by obtain ⟨a, ys, rfl, hl, _⟩ := h; rw [List.length_cons, hl]; rfl) fun cdv A' outer s H vs Q E hr h => by
    obtain ⟨a, ys, rfl, hl, ho, ha, kk⟩ := h
    match ys, hl, ho, kk with
    | [], _, ho, _ => exact ho.elim
    | _ :: _ :: _, _, ho, _ => exact ho.elim
    | [v0], hl, ho, kk =>
    refine ⟨_, pss_cons (ps_expr (pe_base T.base rfl (by exact (pa_cons (pv 0) (pa_cons (pe_joined (PJ.cons pe_str (PJ.cons (pe_fmt (pv 1)) (PJ.cons pe_str PJ.nil)))) pa_nil))))) (pss_one (ps_ost (pv 0) (pv 1))), ?_⟩
    exact ini1 T.o_BadRow T.h_BadRow_index ⟨a, [v0], rfl, hl, ho, ha, kk⟩ fun ho σ hs H' R z => by subst hs; exact js_ok (JsOk.cons (tx_str (by decide +kernel)) (JsOk.cons (tx_fmt (n := 1) rfl ho) (JsOk.cons (tx_str (by decide +kernel)) JsOk.nil))) (by decide) fun out => z out
theorem sc__law_hand : FnScope ["_law_script", "_law_total", "_law_cells", "_law_cell"] ["_law_script"] (defScope s__law_hand) := ⟨rfl, rfl, rfl, by decide +kernel, rfl, by decide +kernel, by decide +kernel⟩
theorem ok__law_hand (T : Tx K mg A) : FnOk P w K mg base (L2.CX P w) 1 A.a__law_hand A.d__law_hand ["_law_script"] (spHand K) :=
  T.F__law_hand.ok sc__law_hand (fun vs H Q E h => by obtain ⟨a, ns, rfl, _⟩ := h; rfl) fun cdv A' outer s H vs Q E hr h => by
    refine ⟨_, pss_cons (ps_set (i := 1) sc__law_hand.nd rfl (by first | exact Or.inl rfl | exact Or.inr rfl) (by exact (pe_op (op_addK (K := K) rfl) (pe_callB (call_lnK (K := K) rfl) rfl T.n_len rfl (pa_cons (pv 0) pa_nil)) pe_int)))
      (pss_cons (ps_set (i := 2) sc__law_hand.nd rfl (by first | exact Or.inl rfl | exact Or.inr rfl) (by exact (pe_lst pa_nil)))
      (pss_cons (ps_for PassesOwn.leaving rfl (pi_sqK (K := K) rfl (pv 0)) (pg_name (i := 3) sc__law_hand.nd rfl (by first | exact Or.inl rfl | exact Or.inr rfl))
        (pss_cons (ps_set (i := 1) sc__law_hand.nd rfl (by first | exact Or.inl rfl | exact Or.inr rfl) (by exact (pe_op op_modN (pe_callTy call_int1 rfl T.n_int rfl (pa_cons (pe_op (op_addK (K := K) rfl) (pe_op op_mulG (pv 1) pe_int) (pe_callTy call_int1 rfl T.n_int rfl (pa_cons (pv 3) pa_nil))) pa_nil)) pe_int)))
        (pss_cons (ps_expr (pe_bm PySem.F.plainAttrs_list PySem.F.slot_list_append PySem.F.type_list_append mt_append (pv 2) (pa_cons (pe_callB call_abs rfl T.n_abs rfl (pa_cons (pe_callTy call_int1 rfl T.n_int rfl (pa_cons (pv 3) pa_nil)) pa_nil)) pa_nil))) pss_nil)))
      (pss_one (ps_ret (by exact (pe_lst (pa_cons (pv 2) (pa_cons pe_int (pa_cons pe_int (pa_cons (pv 1) pa_nil)))))))))), ?_⟩
    exact hand_ok (n := 53) h (by decide) rfl
theorem sc_is_whole : FnScope ["thing", "low", "high"] ["thing", "low", "high"] (defScope s_is_whole) := ⟨rfl, rfl, rfl, by decide +kernel, rfl, by decide +kernel, by decide +kernel⟩
theorem ok_is_whole (T : Tx K mg A) : FnOk P w K mg base (L2.CX P w) 1 A.a_is_whole A.d_is_whole ["thing", "low", "high"] (spM (Zo K A) m_is_whole) :=
  T.F_is_whole.ok sc_is_whole (fun vs H Q E h => spM_len (fun S ds h => match ds, h with | [], _ => rfl | [_], _ => rfl | [_, _], _ => rfl | [_, _, _], h => absurd rfl h | _ :: _ :: _ :: _ :: _, _ => rfl) h) fun cdv A' outer s H vs Q E hr h => by
    obtain ⟨S, lay, G, s0, ds, wd, r, e⟩ := h
    match ds, r, e with
    | [], _, e => exact e.elim
    | [_], _, e => exact e.elim
    | [_, _], _, e => exact e.elim
    | _ :: _ :: _ :: _ :: _, _, e => exact e.elim
    | [a_thing, a_low, a_high], r, e =>
    refine ⟨_, (pss_cons (ps_if (PW.pt (pw_or (pt_not (pt_truK (K := K) rfl (pe_callB (call_isiK (K := K) rfl) rfl T.n_isinstance rfl (pa_cons (pv 0) (pa_cons (pe_bltn (v := .ty "int") rfl T.n_int rfl rfl) pa_nil))) (fun _ => rfl))) (pw_or1 (pt_truK (K := K) rfl (pe_callB (call_isiK (K := K) rfl) rfl T.n_isinstance rfl (pa_cons (pv 0) (pa_cons (pe_bltn (v := .ty "bool") rfl T.n_bool rfl rfl) pa_nil))) (fun _ => rfl))))) (pss_one (ps_ret (by exact pe_bl))) pss_nil) (pss_cons (ps_if (PW.pt (pw_and (pt_cmpR op_notN (pv 1) pe_non (nomark _)) (pw_and1 (pt_cmpR op_lt (pv 0) (pv 1) (nomark _))))) (pss_one (ps_ret (by exact pe_bl))) pss_nil) (pss_one (ps_ret (by exact (pe_or (pe_cmpR op_isN (pv 2) pe_non (nomark _)) (pe_one (pe_cmpR op_le (pv 0) (pv 2) (nomark _))))))))), ?_⟩
    exact body_ok (ρ := [.P a_thing, .P a_low, .P a_high]) (J := ⟨Zo K A, lay, fun cls d _ H => E cls d H⟩) (esc := List.replicate 3 .U) (sv_ifR (et_or (et_not (et_tru (Ev.x (ev_isa .int (Ev.x (ev_var (i := 0) (d := a_thing) rfl)))))) (et_tru (Ev.x (ev_isa .bool (Ev.x (ev_var (i := 0) (d := a_thing) rfl)))))) wkU (sv_ret ev_bl wkU) (sv_skip (sv_ifR (et_and (et_test (ev_op o2_nis (Ev.x (ev_var (i := 1) (d := a_low) rfl)) (Ev.x ev_non))) (et_test (ev_op o2_lt (Ev.x (ev_var (i := 0) (d := a_thing) rfl)) (Ev.x (ev_var (i := 1) (d := a_low) rfl))))) wkU (sv_ret ev_bl wkU) (sv_skip (sv_ret (ev_orV (ev_op o2_is (Ev.x (ev_var (i := 2) (d := a_high) rfl)) (Ev.x ev_non)) (ev_op o2_le (Ev.x (ev_var (i := 0) (d := a_thing) rfl)) (Ev.x (ev_var (i := 2) (d := a_high) rfl)))) wkU))))) ⟨cells_start (n := 0) r rfl, by simpa using wd⟩ (fun _ _ _ _ h => h) e
theorem sc_is_sequence : FnScope ["thing"] ["thing"] (defScope s_is_sequence) := ⟨rfl, rfl, rfl, by decide +kernel, rfl, by decide +kernel, by decide +kernel⟩
theorem ok_is_sequence (T : Tx K mg A) : FnOk P w K mg base (L2.CX P w) 1 A.a_is_sequence A.d_is_sequence ["thing"] (spM (Zo K A) m_is_sequence) :=
  T.F_is_sequence.ok sc_is_sequence (fun vs H Q E h => spM_len (fun S ds h => match ds, h with | [], _ => rfl | [_], h => absurd rfl h | _ :: _ :: _, _ => rfl) h) fun cdv A' outer s H vs Q E hr h => by
    obtain ⟨S, lay, G, s0, ds, wd, r, e⟩ := h
    match ds, r, e with
    | [], _, e => exact e.elim
    | _ :: _ :: _, _, e => exact e.elim
    | [a_thing], r, e =>
    refine ⟨_, (pss_one (ps_ret (by exact (pe_callB (call_isiTK (K := K) rfl) rfl T.n_isinstance rfl (pa_cons (pv 0) (pa_cons (pe_tup (pa_cons (pe_bltn (v := .ty "list") rfl T.n_list rfl rfl) (pa_cons (pe_bltn (v := .ty "tuple") rfl T.n_tuple rfl rfl) pa_nil))) pa_nil)))))), ?_⟩
    exact body_ok (ρ := [.P a_thing]) (J := ⟨Zo K A, lay, fun cls d _ H => E cls d H⟩) (esc := List.replicate 1 .U) (sv_ret (ev_isas [.list, .tuple] (Ev.x (ev_var (i := 0) (d := a_thing) rfl))) wkU) ⟨cells_start (n := 0) r rfl, by simpa using wd⟩ (fun _ _ _ _ h => h) e
theorem sc_is_colour : FnScope ["thing"] ["thing"] (defScope s_is_colour) := ⟨rfl, rfl, rfl, by decide +kernel, rfl, by decide +kernel, by decide +kernel⟩
theorem ok_is_colour (T : Tx K mg A) : FnOk P w K mg base (L2.CX P w) 2 A.a_is_colour A.d_is_colour ["thing"] (spM (Zo K A) m_is_colour) :=
  T.F_is_colour.ok sc_is_colour (fun vs H Q E h => spM_len (fun S ds h => match ds, h with | [], _ => rfl | [_], h => absurd rfl h | _ :: _ :: _, _ => rfl) h) fun cdv A' outer s H vs Q E hr h => by
    obtain ⟨S, lay, G, s0, ds, wd, r, e⟩ := h
    match ds, r, e with
    | [], _, e => exact e.elim
    | _ :: _ :: _, _, e => exact e.elim
    | [a_thing], r, e =>
    refine ⟨_, (pss_one (ps_ret (by exact (pe_callSD (ok_is_whole T) (hr.mono (by first | decide | exact Nat.le_refl _ | omega)) rfl T.g_is_whole T.F_is_whole.kp T.b_is_whole .nil (fun σ => passAt (takes_of rfl rfl rfl rfl) σ) (by exact (pa_cons (pv 0) (pa_cons pe_int (pa_cons (pe_glob (v := .int 99) rfl T.k_MOST_COLOUR.choose_spec ⟨_, rfl⟩) pa_nil)))))))), ?_⟩
    exact body_ok (ρ := [.P a_thing]) (J := ⟨Zo K A, lay, fun cls d _ H => E cls d H⟩) (esc := List.replicate 1 .U) (sv_ret (ev_call (dds := []) (ea_cons (ev_var (i := 0) (d := a_thing) rfl) (ea_cons ev_int (ea_cons ev_int ea_nil)))) wkU) ⟨cells_start (n := 0) r rfl, by simpa using wd⟩ (fun _ _ _ _ h => h) e
theorem sc_wrong_colour : FnScope ["row", "index", "colour"] ["row"] (defScope s_wrong_colour) := ⟨rfl, rfl, rfl, by decide +kernel, rfl, by decide +kernel, by decide +kernel⟩
theorem ok_wrong_colour (T : Tx K mg A) : FnOk P w K mg base (L2.CX P w) 3 A.a_wrong_colour A.d_wrong_colour ["row"] (spM (Zo K A) m_wrong_colour) :=
  T.F_wrong_colour.ok sc_wrong_colour (fun vs H Q E h => spM_len (fun S ds h => match ds, h with | [], _ => rfl | [_], h => absurd rfl h | _ :: _ :: _, _ => rfl) h) fun cdv A' outer s H vs Q E hr h => by
    obtain ⟨S, lay, G, s0, ds, wd, r, e⟩ := h
    match ds, r, e with
    | [], _, e => exact e.elim
    | _ :: _ :: _, _, e => exact e.elim
    | [a_row], r, e =>
    refine ⟨_, (pss_cons (ps_for PassesOwn.leaving rfl (pi_enK (K := K) rfl rfl T.n_enumerate (pa_cons (pv 0) pa_nil)) (pg_tupK (K := K) (n := 2) rfl rfl (pgs_cons (pg_name (i := 1) sc_wrong_colour.nd rfl (by first | exact Or.inl rfl | exact Or.inr rfl)) (pgs_cons (pg_name (i := 2) sc_wrong_colour.nd rfl (by first | exact Or.inl rfl | exact Or.inr rfl)) pgs_nil))) (pss_one (ps_if (pt_not (pt_truK (K := K) rfl (pe_callSD (ok_is_colour T) (hr.mono (by first | decide | exact Nat.le_refl _ | omega)) rfl T.g_is_colour T.F_is_colour.kp T.b_is_colour .nil (fun σ => passAt (takes_of rfl rfl rfl rfl) σ) (by exact (pa_cons (pv 2) pa_nil))) (fun _ => rfl))) (pss_one (ps_ret (by exact (pv 1)))) pss_nil))) (pss_one (ps_ret (by exact pe_non)))), ?_⟩
    exact body_ok (ρ := [.P a_row, .U, .U]) (J := ⟨Zo K A, lay, fun cls d _ H => E cls d H⟩) (esc := List.replicate 3 .U) (sv_frD (e := fun (s2 : Unit) => ([.P a_row, .U, .U] : Dm.Env)) (sv_wk (Wk.keep (Wk.keep (Wk.keep Wk.nil))) (sv_forF (e := fun (s2 : Unit) => ([.P a_row, .U, .U] : Dm.Env)) () (ei_en (ev_var (i := 0) (d := a_row) rfl)) wkU (tg_pair 1 2) (fun t3 s2 => (sv_if (et_not (et_tru (Ev.x (ev_call (dds := []) (ea_cons (ev_var (i := 2) (d := t3.2) rfl) ea_nil))))) wkU (sv_to (g := Fl.rt) (sv_ret (ev_var (i := 1) (d := t3.1) rfl) wkU) (fun _ => rfl)) (sv_to (g := fun _ => Fl.nx ()) sv_next (fun _ => (Wk.keep (Wk.drop (Wk.drop Wk.nil))))))))) (fun s2 => (sv_ret ev_non wkU))) ⟨cells_start (n := 2) r rfl, by simpa using wd⟩ (fun _ _ _ _ h => h) e
theorem sc_check_colour : FnScope ["colour"] ["colour"] (defScope s_check_colour) := ⟨rfl, rfl, rfl, by decide +kernel, rfl, by decide +kernel, by decide +kernel⟩
theorem ok_check_colour (T : Tx K mg A) : FnOk P w K mg base (L2.CX P w) 3 A.a_check_colour A.d_check_colour ["colour"] (spM (Zo K A) m_check_colour) :=
  T.F_check_colour.ok sc_check_colour (fun vs H Q E h => spM_len (fun S ds h => match ds, h with | [], _ => rfl | [_], h => absurd rfl h | _ :: _ :: _, _ => rfl) h) fun cdv A' outer s H vs Q E hr h => by
    obtain ⟨S, lay, G, s0, ds, wd, r, e⟩ := h
    match ds, r, e with
    | [], _, e => exact e.elim
    | _ :: _ :: _, _, e => exact e.elim
    | [a_colour], r, e =>
    refine ⟨_, (pss_cons (ps_if (pt_not (pt_truK (K := K) rfl (pe_callSD (ok_is_colour T) (hr.mono (by first | decide | exact Nat.le_refl _ | omega)) rfl T.g_is_colour T.F_is_colour.kp T.b_is_colour .nil (fun σ => passAt (takes_of rfl rfl rfl rfl) σ) (by exact (pa_cons (pv 0) pa_nil))) (fun _ => rfl))) (pss_one (ps_raise rfl (takes_of rfl rfl rfl rfl) (pmk_oex T.o_BadColour T.i_BadColour T.t_BadColour (oki_BadColour T) (k := 1) (hr.mono (by decide)) T.bi_BadColour .nil passF rfl T.g_BadColour (pa_cons (pv 0) pa_nil)))) pss_nil) (pss_one (ps_ret (by exact (pv 0))))), ?_⟩
    exact body_ok (ρ := [.P a_colour]) (J := ⟨Zo K A, lay, fun cls d _ H => E cls d H⟩) (esc := List.replicate 1 .U) (sv_ifR (et_not (et_tru (Ev.x (ev_call (dds := []) (ea_cons (ev_var (i := 0) (d := a_colour) rfl) ea_nil))))) wkU (sv_raise (c := 0) (okD := okD_BadColour) (ea_cons (ev_var (i := 0) (d := a_colour) rfl) ea_nil) wkU (okD_BadColour_ok K A)) (sv_skip (sv_ret (ev_var (i := 0) (d := a_colour) rfl) wkU))) ⟨cells_start (n := 0) r rfl, by simpa using wd⟩ (fun _ _ _ _ h => h) e
theorem sc_check_row : FnScope ["row", "most", "wrong"] ["row", "most"] (defScope s_check_row) := ⟨rfl, rfl, rfl, by decide +kernel, rfl, by decide +kernel, by decide +kernel⟩
theorem ok_check_row (T : Tx K mg A) : FnOk P w K mg base (L2.CX P w) 4 A.a_check_row A.d_check_row ["row", "most"] (spM (Zo K A) m_check_row) :=
  T.F_check_row.ok sc_check_row (fun vs H Q E h => spM_len (fun S ds h => match ds, h with | [], _ => rfl | [_], _ => rfl | [_, _], h => absurd rfl h | _ :: _ :: _ :: _, _ => rfl) h) fun cdv A' outer s H vs Q E hr h => by
    obtain ⟨S, lay, G, s0, ds, wd, r, e⟩ := h
    match ds, r, e with
    | [], _, e => exact e.elim
    | [_], _, e => exact e.elim
    | _ :: _ :: _ :: _, _, e => exact e.elim
    | [a_row, a_most], r, e =>
    refine ⟨_, (pss_cons (ps_if (PW.pt (pw_or (pt_not (pt_truK (K := K) rfl (pe_callSD (ok_is_sequence T) (hr.mono (by first | decide | exact Nat.le_refl _ | omega)) rfl T.g_is_sequence T.F_is_sequence.kp T.b_is_sequence .nil (fun σ => passAt (takes_of rfl rfl rfl rfl) σ) (by exact (pa_cons (pv 0) pa_nil))) (fun _ => rfl))) (pw_or1 (pt_cmpR op_gt (pe_callB (call_lnK (K := K) rfl) rfl T.n_len rfl (pa_cons (pv 0) pa_nil)) (pv 1) (nomark _))))) (pss_one (ps_raise rfl (takes_of rfl rfl rfl rfl) (pmk_oex T.o_BadRow T.i_BadRow T.t_BadRow (oki_BadRow T) (k := 1) (hr.mono (by decide)) T.bi_BadRow .nil passF rfl T.g_BadRow (pa_cons pe_int pa_nil)))) pss_nil) (pss_cons (ps_set (i := 2) sc_check_row.nd rfl (by first | exact Or.inl rfl | exact Or.inr rfl) (by exact (pe_callSD (ok_wrong_colour T) (hr.mono (by first | decide | exact Nat.le_refl _ | omega)) rfl T.g_wrong_colour T.F_wrong_colour.kp T.b_wrong_colour .nil (fun σ => passAt (takes_of rfl rfl rfl rfl) σ) (by exact (pa_cons (pv 0) pa_nil))))) (pss_cons (ps_if (pt_cmpR op_notN (pv 2) pe_non (nomark _)) (pss_one (ps_raise rfl (takes_of rfl rfl rfl rfl) (pmk_oex T.o_BadRow T.i_BadRow T.t_BadRow (oki_BadRow T) (k := 1) (hr.mono (by decide)) T.bi_BadRow .nil passF rfl T.g_BadRow (pa_cons (pv 2) pa_nil)))) pss_nil) (pss_one (ps_ret (by exact (pe_callTy (call_tupK (K := K) rfl) rfl T.n_tuple rfl (pa_cons (pv 0) pa_nil)))))))), ?_⟩
    exact body_ok (ρ := [.P a_row, .P a_most, .U]) (J := ⟨Zo K A, lay, fun cls d _ H => E cls d H⟩) (esc := List.replicate 3 .U) (sv_ifR (et_or (et_not (et_tru (Ev.x (ev_call (dds := []) (ea_cons (ev_var (i := 0) (d := a_row) rfl) ea_nil))))) (et_test (ev_op o2_gt (Ev.x (ev_b1 o1_len (Ev.x (ev_var (i := 0) (d := a_row) rfl)))) (Ev.x (ev_var (i := 1) (d := a_most) rfl))))) wkU (sv_raise (c := 1) (okD := okD_BadRow) (ea_cons ev_int ea_nil) wkU (okD_BadRow_ok K A)) (sv_skip (sv_seq (e := fun (v_wrong_15 : D) => ([.P a_row, .P a_most, .P v_wrong_15] : Dm.Env)) (sv_asg (ev_call (dds := []) (ea_cons (ev_var (i := 0) (d := a_row) rfl) ea_nil)) wkU) (fun v_wrong_15 => (sv_ifR (et_test (ev_op o2_nis (Ev.x (ev_var (i := 2) (d := v_wrong_15) rfl)) (Ev.x ev_non))) wkU (sv_raise (c := 1) (okD := okD_BadRow) (ea_cons (ev_var (i := 2) (d := v_wrong_15) rfl) ea_nil) wkU (okD_BadRow_ok K A)) (sv_skip (sv_ret (ev_b1 o1_tuple (Ev.x (ev_var (i := 0) (d := a_row) rfl))) wkU))))))) ⟨cells_start (n := 1) r rfl, by simpa using wd⟩ (fun _ _ _ _ h => h) e
theorem sc_strike : FnScope ["row", "index", "colour"] ["row"] (defScope s_strike) := ⟨rfl, rfl, rfl, by decide +kernel, rfl, by decide +kernel, by decide +kernel⟩
theorem ok_strike (T : Tx K mg A) : FnOk P w K mg base (L2.CX P w) 1 A.a_strike A.d_strike ["row"] (spM (Zo K A) m_strike) :=
  T.F_strike.ok sc_strike (fun vs H Q E h => spM_len (fun S ds h => match ds, h with | [], _ => rfl | [_], h => absurd rfl h | _ :: _ :: _, _ => rfl) h) fun cdv A' outer s H vs Q E hr h => by
    obtain ⟨S, lay, G, s0, ds, wd, r, e⟩ := h
    match ds, r, e with
    | [], _, e => exact e.elim
    | _ :: _ :: _, _, e => exact e.elim
    | [a_row], r, e =>
    refine ⟨_, (pss_one (ps_ret (by exact (pe_callTy (call_tupK (K := K) rfl) rfl T.n_tuple rfl (pa_cons (pe_lc (own := [("index", 1), ("colour", 2)]) rfl sc_strike.nd (pi_enK (K := K) rfl rfl T.n_enumerate (pa_cons (pv 0) pa_nil)) (blkOk_by (N := ["row", "index", "colour"]) (sc := defScope s_strike) (by decide +kernel)) (fun _ _ _ _ _ => by exact (pg_tupK (K := K) (n := 2) rfl rfl (pgs_cons (pg_name (i := 1) sc_strike.nd rfl (Or.inl rfl)) (pgs_cons (pg_name (i := 2) sc_strike.nd rfl (Or.inl rfl)) pgs_nil)))) (fun _ _ _ _ _ => by exact (pts_one (PW.pt (pw_or (pt_cmpR (op_eqK (K := K) rfl hr.units) (pv 1) pe_int (nomark _)) (pw_or1 (pt_cmpR (op_neK (K := K) rfl hr.units) (pe_ix (ix_seqK (K := K) rfl) (pv 0) (pe_op op_sub (pv 1) pe_int) (fun _ _ => rfl)) (pv 2) (nomark _))))))) (fun _ _ _ _ _ => by exact (pv 2))) pa_nil))))), ?_⟩
    exact body_ok (ρ := [.P a_row, .U, .U]) (J := ⟨Zo K A, lay, fun cls d _ H => E cls d H⟩) (esc := List.replicate 3 .U) (sv_ret (ev_b1 o1_tuple (Ev.x (ev_new (el_lc (ei_en (ev_var (i := 0) (d := a_row) rfl)) (fun _ _ => (tg_pair 1 2)) (fun t2 _ _ => (et_or (et_test (ev_op o2_eq (Ev.x (ev_var (i := 1) (d := t2.1) rfl)) (Ev.x ev_int))) (et_test (ev_op o2_ne (Ev.x (ev_op o2_ix (Ev.x (ev_var (i := 0) (d := a_row) rfl)) (Ev.x (ev_op o2_sub (Ev.x (ev_var (i := 1) (d := t2.1) rfl)) (Ev.x ev_int))))) (Ev.x (ev_var (i := 2) (d := t2.2) rfl)))))) (fun t2 _ _ => (ev_var (i := 2) (d := t2.2) rfl)) (hO := (List.forall_mem_cons.2 ⟨rfl, (List.forall_mem_cons.2 ⟨rfl, (List.forall_mem_nil _)⟩)⟩)))))) wkU) ⟨cells_start (n := 2) r rfl, by simpa using wd⟩ (fun _ _ _ _ h => h) e
theorem sc_struck_row : FnScope ["row"] ["row"] (defScope s_struck_row) := ⟨rfl, rfl, rfl, by decide +kernel, rfl, by decide +kernel, by decide +kernel⟩
theorem ok_struck_row (T : Tx K mg A) : FnOk P w K mg base (L2.CX P w) 5 A.a_struck_row A.d_struck_row ["row"] (spM (Zo K A) m_struck_row) :=
  T.F_struck_row.ok sc_struck_row (fun vs H Q E h => spM_len (fun S ds h => match ds, h with | [], _ => rfl | [_], h => absurd rfl h | _ :: _ :: _, _ => rfl) h) fun cdv A' outer s H vs Q E hr h => by
    obtain ⟨S, lay, G, s0, ds, wd, r, e⟩ := h
    match ds, r, e with
    | [], _, e => exact e.elim
    | _ :: _ :: _, _, e => exact e.elim
    | [a_row], r, e =>
    refine ⟨_, (pss_one (ps_ret (by exact (pe_callSD (ok_strike T) (hr.mono (by first | decide | exact Nat.le_refl _ | omega)) rfl T.g_strike T.F_strike.kp T.b_strike .nil (fun σ => passAt (takes_of rfl rfl rfl rfl) σ) (by exact (pa_cons (pe_callSD (ok_check_row T) (hr.mono (by first | decide | exact Nat.le_refl _ | omega)) rfl T.g_check_row T.F_check_row.kp T.b_check_row .nil (fun σ => passAt (takes_of rfl rfl rfl rfl) σ) (by exact (pa_cons (pv 0) (pa_cons (pe_glob (v := .int 40) rfl T.k_MOST_ROW.choose_spec ⟨_, rfl⟩) pa_nil)))) pa_nil)))))), ?_⟩
    exact body_ok (ρ := [.P a_row]) (J := ⟨Zo K A, lay, fun cls d _ H => E cls d H⟩) (esc := List.replicate 1 .U) (sv_ret (ev_call (dds := []) (ea_cons (ev_call (dds := []) (ea_cons (ev_var (i := 0) (d := a_row) rfl) (ea_cons ev_int ea_nil))) ea_nil)) wkU) ⟨cells_start (n := 0) r rfl, by simpa using wd⟩ (fun _ _ _ _ h => h) e
theorem sc__check_first : FnScope ["first"] ["first"] (defScope s__check_first) := ⟨rfl, rfl, rfl, by decide +kernel, rfl, by decide +kernel, by decide +kernel⟩
theorem ok__check_first (T : Tx K mg A) : FnOk P w K mg base (L2.CX P w) 4 A.a__check_first A.d__check_first ["first"] (spM (Zo K A) m__check_first) :=
  T.F__check_first.ok sc__check_first (fun vs H Q E h => spM_len (fun S ds h => match ds, h with | [], _ => rfl | [_], h => absurd rfl h | _ :: _ :: _, _ => rfl) h) fun cdv A' outer s H vs Q E hr h => by
    obtain ⟨S, lay, G, s0, ds, wd, r, e⟩ := h
    match ds, r, e with
    | [], _, e => exact e.elim
    | _ :: _ :: _, _, e => exact e.elim
    | [a_first], r, e =>
    refine ⟨_, (pss_one (ps_if (pt_cmpR op_notN (pv 0) pe_non (nomark _)) (pss_cons (ps_expr (by exact (pe_callSD (ok_check_colour T) (hr.mono (by first | decide | exact Nat.le_refl _ | omega)) rfl T.g_check_colour T.F_check_colour.kp T.b_check_colour .nil (fun σ => passAt (takes_of rfl rfl rfl rfl) σ) (by exact (pa_cons (pv 0) pa_nil))))) pss_nil) pss_nil)), ?_⟩
    exact body_ok (ρ := [.P a_first]) (J := ⟨Zo K A, lay, fun cls d _ H => E cls d H⟩) (esc := List.replicate 1 .U) (sv_if (et_test (ev_op o2_nis (Ev.x (ev_var (i := 0) (d := a_first) rfl)) (Ev.x ev_non))) wkU (sv_seq (e := fun (_ : D) => ([.P a_first] : Dm.Env)) (sv_drop (ev_call (dds := []) (ea_cons (ev_var (i := 0) (d := a_first) rfl) ea_nil)) wkU) (fun _ => sv_end)) sv_end) ⟨cells_start (n := 0) r rfl, by simpa using wd⟩ (fun _ _ _ _ h => h) e
theorem sc__least_equal : FnScope ["row", "first", "struck"] ["row", "first"] (defScope s__least_equal) := ⟨rfl, rfl, rfl, by decide +kernel, rfl, by decide +kernel, by decide +kernel⟩
theorem ok__least_equal (T : Tx K mg A) : FnOk P w K mg base (L2.CX P w) 2 A.a__least_equal A.d__least_equal ["row", "first"] (spM (Zo K A) m__least_equal) :=
  T.F__least_equal.ok sc__least_equal (fun vs H Q E h => spM_len (fun S ds h => match ds, h with | [], _ => rfl | [_], _ => rfl | [_, _], h => absurd rfl h | _ :: _ :: _ :: _, _ => rfl) h) fun cdv A' outer s H vs Q E hr h => by
    obtain ⟨S, lay, G, s0, ds, wd, r, e⟩ := h
    match ds, r, e with
    | [], _, e => exact e.elim
    | [_], _, e => exact e.elim
    | _ :: _ :: _ :: _, _, e => exact e.elim
    | [a_row, a_first], r, e =>
    refine ⟨_, (pss_cons (ps_set (i := 2) sc__least_equal.nd rfl (by first | exact Or.inl rfl | exact Or.inr rfl) (by exact (pe_callSD (ok_strike T) (hr.mono (by first | decide | exact Nat.le_refl _ | omega)) rfl T.g_strike T.F_strike.kp T.b_strike .nil (fun σ => passAt (takes_of rfl rfl rfl rfl) σ) (by exact (pa_cons (pv 0) pa_nil))))) (pss_one (ps_ret (by exact (pe_ifExp (pt_cmpR (op_eqK (K := K) rfl hr.units) (pe_slice (sl_anyK (K := K) rfl) (pv 2) po_none (po_some pe_int)) (pe_tup (pa_cons (pv 1) pa_nil)) (nomark _)) (pe_slice (sl_anyK (K := K) rfl) (pv 2) (po_some pe_int) po_none) (pv 2)))))), ?_⟩
    exact body_ok (ρ := [.P a_row, .P a_first, .U]) (J := ⟨Zo K A, lay, fun cls d _ H => E cls d H⟩) (esc := List.replicate 3 .U) (sv_seq (e := fun (v_struck_1 : D) => ([.P a_row, .P a_first, .P v_struck_1] : Dm.Env)) (sv_asg (ev_call (dds := []) (ea_cons (ev_var (i := 0) (d := a_row) rfl) ea_nil)) wkU) (fun v_struck_1 => (sv_ret (ev_ifE (et_test (ev_op o2_eq (Ev.x (ev_sl (Ev.x (ev_var (i := 2) (d := v_struck_1) rfl)) eo_none (eo_some ev_int))) (Ev.x (ev_tup (ea_cons (ev_var (i := 1) (d := a_first) rfl) ea_nil))))) (ev_sl (Ev.x (ev_var (i := 2) (d := v_struck_1) rfl)) (eo_some ev_int) eo_none) (ev_var (i := 2) (d := v_struck_1) rfl)) wkU))) ⟨cells_start (n := 1) r rfl, by simpa using wd⟩ (fun _ _ _ _ h => h) e
theorem sc_least_equal_row : FnScope ["row", "first", "checked"] ["row", "first"] (defScope s_least_equal_row) := ⟨rfl, rfl, rfl, by decide +kernel, rfl, by decide +kernel, by decide +kernel⟩
theorem ok_least_equal_row (T : Tx K mg A) : FnOk P w K mg base (L2.CX P w) 5 A.a_least_equal_row A.d_least_equal_row ["row", "first"] (spM (Zo K A) m_least_equal_row) :=
  T.F_least_equal_row.ok sc_least_equal_row (fun vs H Q E h => spM_len (fun S ds h => match ds, h with | [], _ => rfl | [_], _ => rfl | [_, _], h => absurd rfl h | _ :: _ :: _ :: _, _ => rfl) h) fun cdv A' outer s H vs Q E hr h => by
    obtain ⟨S, lay, G, s0, ds, wd, r, e⟩ := h
    match ds, r, e with
    | [], _, e => exact e.elim
    | [_], _, e => exact e.elim
    | _ :: _ :: _ :: _, _, e => exact e.elim
    | [a_row, a_first], r, e =>
    refine ⟨_, (pss_cons (ps_set (i := 2) sc_least_equal_row.nd rfl (by first | exact Or.inl rfl | exact Or.inr rfl) (by exact (pe_callSD (ok_check_row T) (hr.mono (by first | decide | exact Nat.le_refl _ | omega)) rfl T.g_check_row T.F_check_row.kp T.b_check_row .nil (fun σ => passAt (takes_of rfl rfl rfl rfl) σ) (by exact (pa_cons (pv 0) (pa_cons (pe_glob (v := .int 40) rfl T.k_MOST_ROW.choose_spec ⟨_, rfl⟩) pa_nil)))))) (pss_cons (ps_expr (by exact (pe_callSD (ok__check_first T) (hr.mono (by first | decide | exact Nat.le_refl _ | omega)) rfl T.g__check_first T.F__check_first.kp T.b__check_first .nil (fun σ => passAt (takes_of rfl rfl rfl rfl) σ) (by exact (pa_cons (pv 1) pa_nil))))) (pss_one (ps_ret (by exact (pe_callSD (ok__least_equal T) (hr.mono (by first | decide | exact Nat.le_refl _ | omega)) rfl T.g__least_equal T.F__least_equal.kp T.b__least_equal .nil (fun σ => passAt (takes_of rfl rfl rfl rfl) σ) (by exact (pa_cons (pv 2) (pa_cons (pv 1) pa_nil))))))))), ?_⟩
    exact body_ok (ρ := [.P a_row, .P a_first, .U]) (J := ⟨Zo K A, lay, fun cls d _ H => E cls d H⟩) (esc := List.replicate 3 .U) (sv_seq (e := fun (v_checked_1 : D) => ([.P a_row, .P a_first, .P v_checked_1] : Dm.Env)) (sv_asg (ev_call (dds := []) (ea_cons (ev_var (i := 0) (d := a_row) rfl) (ea_cons ev_int ea_nil))) wkU) (fun v_checked_1 => (sv_seq (e := fun (_ : D) => ([.P a_row, .P a_first, .P v_checked_1] : Dm.Env)) (sv_drop (ev_call (dds := []) (ea_cons (ev_var (i := 1) (d := a_first) rfl) ea_nil)) wkU) (fun _ => (sv_ret (ev_call (dds := []) (ea_cons (ev_var (i := 2) (d := v_checked_1) rfl) (ea_cons (ev_var (i := 1) (d := a_first) rfl) ea_nil))) wkU))))) ⟨cells_start (n := 1) r rfl, by simpa using wd⟩ (fun _ _ _ _ h => h) e
theorem sc_find_places : FnScope ["row", "within", "places", "place", "colour"] ["row", "within"] (defScope s_find_places) := ⟨rfl, rfl, rfl, by decide +kernel, rfl, by decide +kernel, by decide +kernel⟩
theorem ok_find_places (T : Tx K mg A) : FnOk P w K mg base (L2.CX P w) 1 A.a_find_places A.d_find_places ["row", "within"] (spM (Zo K A) m_find_places) :=
  T.F_find_places.ok sc_find_places (fun vs H Q E h => spM_len (fun S ds h => match ds, h with | [], _ => rfl | [_], _ => rfl | [_, _], h => absurd rfl h | _ :: _ :: _ :: _, _ => rfl) h) fun cdv A' outer s H vs Q E hr h => by
    obtain ⟨S, lay, G, s0, ds, wd, r, e⟩ := h
    match ds, r, e with
    | [], _, e => exact e.elim
    | [_], _, e => exact e.elim
    | _ :: _ :: _ :: _, _, e => exact e.elim
    | [a_row, a_within], r, e =>
    refine ⟨_, (pss_cons (ps_set (i := 2) sc_find_places.nd rfl (by first | exact Or.inl rfl | exact Or.inr rfl) (by exact (pe_lst pa_nil))) (pss_cons (ps_for PassesOwn.leaving rfl (pi_enK (K := K) rfl rfl T.n_enumerate (pa_cons (pv 1) pa_nil)) (pg_tupK (K := K) (n := 2) rfl rfl (pgs_cons (pg_name (i := 3) sc_find_places.nd rfl (by first | exact Or.inl rfl | exact Or.inr rfl)) (pgs_cons (pg_name (i := 4) sc_find_places.nd rfl (by first | exact Or.inl rfl | exact Or.inr rfl)) pgs_nil))) (pss_one (ps_if (PW.pt (pw_and (pt_cmpR op_lt (pe_callB (call_lnK (K := K) rfl) rfl T.n_len rfl (pa_cons (pv 2) pa_nil)) (pe_callB (call_lnK (K := K) rfl) rfl T.n_len rfl (pa_cons (pv 0) pa_nil)) (nomark _)) (pw_and1 (pt_cmpR (op_eqK (K := K) rfl hr.units) (pe_ix (ix_seqK (K := K) rfl) (pv 0) (pe_callB (call_lnK (K := K) rfl) rfl T.n_len rfl (pa_cons (pv 2) pa_nil)) (fun _ _ => rfl)) (pv 4) (nomark _))))) (pss_cons (ps_expr (pe_bm PySem.F.plainAttrs_list PySem.F.slot_list_append PySem.F.type_list_append mt_append (pv 2) (pa_cons (pv 3) pa_nil))) pss_nil) pss_nil))) (pss_one (ps_ret (by exact (pe_ifExp (pt_cmpR (op_eqK (K := K) rfl hr.units) (pe_callB (call_lnK (K := K) rfl) rfl T.n_len rfl (pa_cons (pv 2) pa_nil)) (pe_callB (call_lnK (K := K) rfl) rfl T.n_len rfl (pa_cons (pv 0) pa_nil)) (nomark _)) (pe_callTy (call_tupK (K := K) rfl) rfl T.n_tuple rfl (pa_cons (pv 2) pa_nil)) pe_non)))))), ?_⟩
    exact body_ok (ρ := [.P a_row, .P a_within, .U, .U, .U]) (J := ⟨Zo K A, lay, fun cls d _ H => E cls d H⟩) (esc := List.replicate 5 .U) (sv_seq (e := fun (v_places_1 : List D) => ([.P a_row, .P a_within, .O v_places_1, .U, .U] : Dm.Env)) (sv_asgL (el_lst ea_nil) wkU (hi := Nat.le_of_ble_eq_true rfl)) (fun v_places_1 => (sv_seq (e := fun (s4 : List D) => ([.P a_row, .P a_within, .O s4, .U, .U] : Dm.Env)) (sv_wk (Wk.keep (Wk.keep (Wk.keep (Wk.keep (Wk.keep Wk.nil))))) (sv_forN (e := fun (s4 : List D) => ([.P a_row, .P a_within, .O s4, .U, .U] : Dm.Env)) v_places_1 (ei_en (ev_var (i := 1) (d := a_within) rfl)) wkU (tg_pair 3 4) (fun t5 s4 => (sv_if (et_and (et_test (ev_op o2_lt (Ev.x (ev_b1 o1_len (ex_own (i := 2) (ds := s4) rfl))) (Ev.x (ev_b1 o1_len (Ev.x (ev_var (i := 0) (d := a_row) rfl)))))) (et_test (ev_op o2_eq (Ev.x (ev_op o2_ix (Ev.x (ev_var (i := 0) (d := a_row) rfl)) (Ev.x (ev_b1 o1_len (ex_own (i := 2) (ds := s4) rfl))))) (Ev.x (ev_var (i := 4) (d := t5.2) rfl))))) wkU (sv_seq (e := fun (es19 : List D) => ([.P a_row, .P a_within, .O es19, .P t5.1, .P t5.2] : Dm.Env)) (sv_app (i := 2) rfl (ev_var (i := 3) (d := t5.1) rfl) wkU) (fun es19 => (sv_to (g := fun _ => es19) sv_next (fun _ => (Wk.keep (Wk.keep (Wk.keep (Wk.drop (Wk.drop Wk.nil))))))))) (sv_to (g := fun _ => s4) sv_next (fun _ => (Wk.keep (Wk.keep (Wk.keep (Wk.drop (Wk.drop Wk.nil))))))))))) (fun s4 => (sv_ret (ev_ifE (et_test (ev_op o2_eq (Ev.x (ev_b1 o1_len (ex_own (i := 2) (ds := s4) rfl))) (Ev.x (ev_b1 o1_len (Ev.x (ev_var (i := 0) (d := a_row) rfl)))))) (ev_b1 o1_tuple (ex_own (i := 2) (ds := s4) rfl)) ev_non) wkU))))) ⟨cells_start (n := 3) r rfl, by simpa using wd⟩ (fun _ _ _ _ h => h) e
theorem sc_hidden_places : FnScope ["row", "within", "checked"] ["row", "within"] (defScope s_hidden_places) := ⟨rfl, rfl, rfl, by decide +kernel, rfl, by decide +kernel, by decide +kernel⟩
theorem ok_hidden_places (T : Tx K mg A) : FnOk P w K mg base (L2.CX P w) 5 A.a_hidden_places A.d_hidden_places ["row", "within"] (spM (Zo K A) m_hidden_places) :=
  T.F_hidden_places.ok sc_hidden_places (fun vs H Q E h => spM_len (fun S ds h => match ds, h with | [], _ => rfl | [_], _ => rfl | [_, _], h => absurd rfl h | _ :: _ :: _ :: _, _ => rfl) h) fun cdv A' outer s H vs Q E hr h => by
    obtain ⟨S, lay, G, s0, ds, wd, r, e⟩ := h
    match ds, r, e with
    | [], _, e => exact e.elim
    | [_], _, e => exact e.elim
    | _ :: _ :: _ :: _, _, e => exact e.elim
    | [a_row, a_within], r, e =>
    refine ⟨_, (pss_cons (ps_set (i := 2) sc_hidden_places.nd rfl (by first | exact Or.inl rfl | exact Or.inr rfl) (by exact (pe_callSD (ok_check_row T) (hr.mono (by first | decide | exact Nat.le_refl _ | omega)) rfl T.g_check_row T.F_check_row.kp T.b_check_row .nil (fun σ => passAt (takes_of rfl rfl rfl rfl) σ) (by exact (pa_cons (pv 0) (pa_cons (pe_glob (v := .int 40) rfl T.k_MOST_ROW.choose_spec ⟨_, rfl⟩) pa_nil)))))) (pss_one (ps_ret (by exact (pe_callSD (ok_find_places T) (hr.mono (by first | decide | exact Nat.le_refl _ | omega)) rfl T.g_find_places T.F_find_places.kp T.b_find_places .nil (fun σ => passAt (takes_of rfl rfl rfl rfl) σ) (by exact (pa_cons (pv 2) (pa_cons (pe_callSD (ok_check_row T) (hr.mono (by first | decide | exact Nat.le_refl _ | omega)) rfl T.g_check_row T.F_check_row.kp T.b_check_row .nil (fun σ => passAt (takes_of rfl rfl rfl rfl) σ) (by exact (pa_cons (pv 1) (pa_cons (pe_glob (v := .int 40) rfl T.k_MOST_ROW.choose_spec ⟨_, rfl⟩) pa_nil)))) pa_nil)))))))), ?_⟩
    exact body_ok (ρ := [.P a_row, .P a_within, .U]) (J := ⟨Zo K A, lay, fun cls d _ H => E cls d H⟩) (esc := List.replicate 3 .U) (sv_seq (e := fun (v_checked_1 : D) => ([.P a_row, .P a_within, .P v_checked_1] : Dm.Env)) (sv_asg (ev_call (dds := []) (ea_cons (ev_var (i := 0) (d := a_row) rfl) (ea_cons ev_int ea_nil))) wkU) (fun v_checked_1 => (sv_ret (ev_call (dds := []) (ea_cons (ev_var (i := 2) (d := v_checked_1) rfl) (ea_cons (ev_call (dds := []) (ea_cons (ev_var (i := 1) (d := a_within) rfl) (ea_cons ev_int ea_nil))) ea_nil))) wkU))) ⟨cells_start (n := 1) r rfl, by simpa using wd⟩ (fun _ _ _ _ h => h) e
theorem sc_is_hidden : FnScope ["row", "within"] ["row", "within"] (defScope s_is_hidden) := ⟨rfl, rfl, rfl, by decide +kernel, rfl, by decide +kernel, by decide +kernel⟩
theorem ok_is_hidden (T : Tx K mg A) : FnOk P w K mg base (L2.CX P w) 6 A.a_is_hidden A.d_is_hidden ["row", "within"] (spM (Zo K A) m_is_hidden) :=
  T.F_is_hidden.ok sc_is_hidden (fun vs H Q E h => spM_len (fun S ds h => match ds, h with | [], _ => rfl | [_], _ => rfl | [_, _], h => absurd rfl h | _ :: _ :: _ :: _, _ => rfl) h) fun cdv A' outer s H vs Q E hr h => by
    obtain ⟨S, lay, G, s0, ds, wd, r, e⟩ := h
    match ds, r, e with
    | [], _, e => exact e.elim
    | [_], _, e => exact e.elim
    | _ :: _ :: _ :: _, _, e => exact e.elim
    | [a_row, a_within], r, e =>
    refine ⟨_, (pss_one (ps_ret (by exact (pe_cmpR op_notN (pe_callSD (ok_hidden_places T) (hr.mono (by first | decide | exact Nat.le_refl _ | omega)) rfl T.g_hidden_places T.F_hidden_places.kp T.b_hidden_places .nil (fun σ => passAt (takes_of rfl rfl rfl rfl) σ) (by exact (pa_cons (pv 0) (pa_cons (pv 1) pa_nil)))) pe_non (nomark _))))), ?_⟩
    exact body_ok (ρ := [.P a_row, .P a_within]) (J := ⟨Zo K A, lay, fun cls d _ H => E cls d H⟩) (esc := List.replicate 2 .U) (sv_ret (ev_op o2_nis (Ev.x (ev_call (dds := []) (ea_cons (ev_var (i := 0) (d := a_row) rfl) (ea_cons (ev_var (i := 1) (d := a_within) rfl) ea_nil)))) (Ev.x ev_non)) wkU) ⟨cells_start (n := 0) r rfl, by simpa using wd⟩ (fun _ _ _ _ h => h) e
theorem sc__law_mixed : FnScope ["_law_number", "_law_turn", "_law_once", "_law_twice"] ["_law_number", "_law_turn"] (defScope s__law_mixed) := ⟨rfl, rfl, rfl, by decide +kernel, rfl, by decide +kernel, by decide +kernel⟩
theorem ok__law_mixed (T : Tx K mg A) : FnOk P w K mg base (L2.CX P w) 1 A.a__law_mixed A.d__law_mixed ["_law_number", "_law_turn"] (spM (Zo K A) m__law_mixed) :=
  T.F__law_mixed.ok sc__law_mixed (fun vs H Q E h => spM_len (fun S ds h => match ds, h with | [], _ => rfl | [_], _ => rfl | [_, _], h => absurd rfl h | _ :: _ :: _ :: _, _ => rfl) h) fun cdv A' outer s H vs Q E hr h => by
    obtain ⟨S, lay, G, s0, ds, wd, r, e⟩ := h
    match ds, r, e with
    | [], _, e => exact e.elim
    | [_], _, e => exact e.elim
    | _ :: _ :: _ :: _, _, e => exact e.elim
    | [a_number, a_turn], r, e =>
    refine ⟨_, (pss_cons (ps_set (i := 2) sc__law_mixed.nd rfl (by first | exact Or.inl rfl | exact Or.inr rfl) (by exact (pe_op op_modN (pe_callTy call_int1 rfl T.n_int rfl (pa_cons (pe_op (op_addK (K := K) rfl) (pe_op (op_addK (K := K) rfl) (pe_op op_mulG (pv 0) pe_int) (pe_op op_mulG (pv 1) pe_int)) pe_int) pa_nil)) pe_int))) (pss_cons (ps_set (i := 3) sc__law_mixed.nd rfl (by first | exact Or.inl rfl | exact Or.inr rfl) (by exact (pe_op op_modN (pe_callTy call_int1 rfl T.n_int rfl (pa_cons (pe_op (op_addK (K := K) rfl) (pe_op (op_addK (K := K) rfl) (pe_op op_mulG (pv 2) (pv 2)) (pe_op op_mulG (pv 1) pe_int)) (pe_op op_fdivW (pv 2) pe_int)) pa_nil)) pe_int))) (pss_one (ps_ret (by exact (pe_op op_fdivW (pe_callTy call_int1 rfl T.n_int rfl (pa_cons (pe_op op_modN (pe_callTy call_int1 rfl T.n_int rfl (pa_cons (pe_op (op_addK (K := K) rfl) (pe_op op_mulG (pv 3) pe_int) (pe_op op_fdivW (pv 2) pe_int)) pa_nil)) pe_int) pa_nil)) pe_int)))))), ?_⟩
    exact body_ok (ρ := [.P a_number, .P a_turn, .U, .U]) (J := ⟨Zo K A, lay, fun cls d _ H => E cls d H⟩) (esc := List.replicate 4 .U) (sv_seq (e := fun (v_once_1 : D) => ([.P a_number, .P a_turn, .P v_once_1, .U] : Dm.Env)) (sv_asg (ev_op o2_mod (Ev.x (ev_b1 o1_int (Ev.x (ev_op o2_add (Ev.x (ev_op o2_add (Ev.x (ev_op o2_mul (Ev.x (ev_var (i := 0) (d := a_number) rfl)) (Ev.x ev_int))) (Ev.x (ev_op o2_mul (Ev.x (ev_var (i := 1) (d := a_turn) rfl)) (Ev.x ev_int))))) (Ev.x ev_int))))) (Ev.x ev_int)) wkU) (fun v_once_1 => (sv_seq (e := fun (v_twice_13 : D) => ([.P a_number, .P a_turn, .P v_once_1, .P v_twice_13] : Dm.Env)) (sv_asg (ev_op o2_mod (Ev.x (ev_b1 o1_int (Ev.x (ev_op o2_add (Ev.x (ev_op o2_add (Ev.x (ev_op o2_mul (Ev.x (ev_var (i := 2) (d := v_once_1) rfl)) (Ev.x (ev_var (i := 2) (d := v_once_1) rfl)))) (Ev.x (ev_op o2_mul (Ev.x (ev_var (i := 1) (d := a_turn) rfl)) (Ev.x ev_int))))) (Ev.x (ev_op o2_div (Ev.x (ev_var (i := 2) (d := v_once_1) rfl)) (Ev.x ev_int))))))) (Ev.x ev_int)) wkU) (fun v_twice_13 => (sv_ret (ev_op o2_div (Ev.x (ev_b1 o1_int (Ev.x (ev_op o2_mod (Ev.x (ev_b1 o1_int (Ev.x (ev_op o2_add (Ev.x (ev_op o2_mul (Ev.x (ev_var (i := 3) (d := v_twice_13) rfl)) (Ev.x ev_int))) (Ev.x (ev_op o2_div (Ev.x (ev_var (i := 2) (d := v_once_1) rfl)) (Ev.x ev_int))))))) (Ev.x ev_int))))) (Ev.x ev_int)) wkU))))) ⟨cells_start (n := 2) r rfl, by simpa using wd⟩ (fun _ _ _ _ h => h) e
theorem sc__law_take : FnScope ["_law_hand_here", "_law_many", "_law_cell", "_law_rest"] ["_law_hand_here", "_law_many"] (defScope s__law_take) := ⟨rfl, rfl, rfl, by decide +kernel, rfl, by decide +kernel, by decide +kernel⟩
theorem ok__law_take (T : Tx K mg A) : FnOk P w K mg base (L2.CX P w) 2 A.a__law_take A.d__law_take ["_law_hand_here", "_law_many"] (spD (Zo K A) m__law_take) :=
  T.F__law_take.ok sc__law_take (fun vs H Q E h => spD_len (fun cs ds h => match ds, h with | [], _ => rfl | [_], h => absurd rfl h | _ :: _ :: _, _ => rfl) h) fun cdv A' outer s H vs Q E hr h => by
    obtain ⟨p, c, cells, L0, G, s0, vs', ds, rfl, hf, wd, r, e⟩ := h
    have hJ : HandJ (⟨Zo K A, fun h => (p, hHO c h) :: L0, fun cls d _ H => E cls d H⟩ : Jc Hd) p c := ⟨[], L0, fun _ => rfl⟩
    match ds, r, e with
    | [], _, e => exact e.elim
    | _ :: _ :: _, _, e => exact e.elim
    | [a_many], r, e =>
    refine ⟨_, (pss_cons (ps_if (PW.pt (pw_and (pt_cmpR (op_eqK (K := K) rfl hr.units) (pe_ix (ix_seqK (K := K) rfl) (pv 0) pe_int (fun _ _ => rfl)) pe_int (nomark _)) (pw_and1 (pt_cmpR op_lt (pe_ix (ix_seqK (K := K) rfl) (pv 0) pe_int (fun _ _ => rfl)) (pe_callB (call_lnK (K := K) rfl) rfl T.n_len rfl (pa_cons (pe_ix (ix_seqK (K := K) rfl) (pv 0) pe_int (fun _ _ => rfl)) pa_nil)) (nomark _))))) (pss_cons (ps_set (i := 2) sc__law_take.nd rfl (by first | exact Or.inl rfl | exact Or.inr rfl) (by exact (pe_ix (ix_seqK (K := K) rfl) (pe_ix (ix_seqK (K := K) rfl) (pv 0) pe_int (fun _ _ => rfl)) (pe_ix (ix_seqK (K := K) rfl) (pv 0) pe_int (fun _ _ => rfl)) (fun _ _ => rfl)))) (pss_cons (ps_asg (pe_op (op_addK (K := K) rfl) (pe_ix (ix_seqK (K := K) rfl) (pv 0) pe_int (fun _ _ => rfl)) pe_int) (pg_sub (pv 0) pe_int set_list)) (pss_cons (ps_if (pt_cmpR op_lt (pv 2) (pe_op op_pow pe_int pe_int) (nomark _)) (pss_one (ps_ret (by exact (pe_op op_modN (pe_callTy call_int1 rfl T.n_int rfl (pa_cons (pe_callSD (ok__law_mixed T) (hr.mono (by first | decide | exact Nat.le_refl _ | omega)) rfl T.g__law_mixed T.F__law_mixed.kp T.b__law_mixed .nil (fun σ => passAt (takes_of rfl rfl rfl rfl) σ) (by exact (pa_cons (pe_op op_modN (pe_callTy call_int1 rfl T.n_int rfl (pa_cons (pv 2) pa_nil)) pe_int) (pa_cons (pe_ix (ix_seqK (K := K) rfl) (pv 0) pe_int (fun _ _ => rfl)) pa_nil)))) pa_nil)) (pv 1))))) pss_nil) (pss_cons (ps_asg (pv 2) (pg_sub (pv 0) pe_int set_list)) pss_nil)))) pss_nil) (pss_cons (ps_if (pt_cmpR op_gt (pe_ix (ix_seqK (K := K) rfl) (pv 0) pe_int (fun _ _ => rfl)) pe_int (nomark _)) (pss_cons (ps_set (i := 3) sc__law_take.nd rfl (by first | exact Or.inl rfl | exact Or.inr rfl) (by exact (pe_ix (ix_seqK (K := K) rfl) (pv 0) pe_int (fun _ _ => rfl)))) (pss_cons (ps_asg (pe_op op_fdivW (pe_callTy call_int1 rfl T.n_int rfl (pa_cons (pv 3) pa_nil)) (pv 1)) (pg_sub (pv 0) pe_int set_list)) (pss_one (ps_ret (by exact (pe_op op_modN (pe_callTy call_int1 rfl T.n_int rfl (pa_cons (pv 3) pa_nil)) (pv 1))))))) pss_nil) (pss_cons (ps_asg (pe_op op_modN (pe_callTy call_int1 rfl T.n_int rfl (pa_cons (pe_op (op_addK (K := K) rfl) (pe_ix (ix_seqK (K := K) rfl) (pv 0) pe_int (fun _ _ => rfl)) pe_int) pa_nil)) pe_int) (pg_sub (pv 0) pe_int set_list)) (pss_one (ps_ret (by exact (pe_op op_modN (pe_callTy call_int1 rfl T.n_int rfl (pa_cons (pe_callSD (ok__law_mixed T) (hr.mono (by first | decide | exact Nat.le_refl _ | omega)) rfl T.g__law_mixed T.F__law_mixed.kp T.b__law_mixed .nil (fun σ => passAt (takes_of rfl rfl rfl rfl) σ) (by exact (pa_cons (pe_ix (ix_seqK (K := K) rfl) (pv 0) pe_int (fun _ _ => rfl)) (pa_cons (pe_ix (ix_seqK (K := K) rfl) (pv 0) pe_int (fun _ _ => rfl)) pa_nil)))) pa_nil)) (pv 1)))))))), ?_⟩
    exact bodyD_ok (ρ := [.A p (hF c cells), .P a_many, .U, .U]) (J := ⟨Zo K A, fun h => (p, hHO c h) :: L0, fun cls d _ H => E cls d H⟩) (esc := List.replicate 4 .U) (sv_frD (e := fun (s10 : Unit) => ([.A p (hF c cells), .P a_many, .U, .U] : Dm.Env)) (sv_if (et_and (et_test (ev_op o2_eq (Ev.x (ev_hget (cells := cells) 2 hJ rfl)) (Ev.x ev_int))) (et_test (ev_op o2_lt (Ev.x (ev_hget (cells := cells) 1 hJ rfl)) (Ev.x (ev_b1 o1_len (Ev.x (ev_hget (cells := cells) 0 hJ rfl))))))) wkU (sv_seq (e := fun (v_cell_11 : D) => ([.A p (hF c cells), .P a_many, .P v_cell_11, .U] : Dm.Env)) (sv_asg (ev_op o2_ix (Ev.x (ev_hget (cells := cells) 0 hJ rfl)) (Ev.x (ev_hget (cells := cells) 1 hJ rfl))) wkU) (fun v_cell_11 => (sv_seq (e := fun (_ : Unit) => ([.A p (hF c cells), .P a_many, .P v_cell_11, .U] : Dm.Env)) (sv_hput 1 hJ rfl (ev_op o2_add (Ev.x (ev_hget (cells := cells) 1 hJ rfl)) (Ev.x ev_int)) wkU) (fun _ => (sv_ifRr (γ := Unit) (et_test (ev_op o2_lt (Ev.x (ev_var (i := 2) (d := v_cell_11) rfl)) (Ev.x (ev_op o2_pow (Ev.x ev_int) (Ev.x ev_int))))) wkU (sv_ret (ev_op o2_mod (Ev.x (ev_b1 o1_int (Ev.x (ev_call (dds := []) (ea_cons (ev_op o2_mod (Ev.x (ev_b1 o1_int (Ev.x (ev_var (i := 2) (d := v_cell_11) rfl)))) (Ev.x ev_int)) (ea_cons (ev_hget (cells := cells) 1 hJ rfl) ea_nil)))))) (Ev.x (ev_var (i := 1) (d := a_many) rfl))) wkU) (sv_skip (sv_seq (e := fun (_ : Unit) => ([.A p (hF c cells), .P a_many, .P v_cell_11, .U] : Dm.Env)) (sv_hput 2 hJ rfl (ev_var (i := 2) (d := v_cell_11) rfl) wkU) (fun _ => (sv_to (g := fun _ => Fr.nx ()) sv_next (fun _ => (Wk.keep (Wk.keep (Wk.drop (Wk.keep Wk.nil)))))))))))))) (sv_to (g := fun _ => Fr.nx ()) sv_next (fun _ => (Wk.keep (Wk.keep (Wk.keep (Wk.keep Wk.nil))))))) (fun s10 => (sv_ifR (et_test (ev_op o2_gt (Ev.x (ev_hget (cells := cells) 2 hJ rfl)) (Ev.x ev_int))) wkU (sv_seq (e := fun (v_rest_39 : D) => ([.A p (hF c cells), .P a_many, .U, .P v_rest_39] : Dm.Env)) (sv_asg (ev_hget (cells := cells) 2 hJ rfl) wkU) (fun v_rest_39 => (sv_seq (e := fun (_ : Unit) => ([.A p (hF c cells), .P a_many, .U, .P v_rest_39] : Dm.Env)) (sv_hput 2 hJ rfl (ev_op o2_div (Ev.x (ev_b1 o1_int (Ev.x (ev_var (i := 3) (d := v_rest_39) rfl)))) (Ev.x (ev_var (i := 1) (d := a_many) rfl))) wkU) (fun _ => (sv_ret (ev_op o2_mod (Ev.x (ev_b1 o1_int (Ev.x (ev_var (i := 3) (d := v_rest_39) rfl)))) (Ev.x (ev_var (i := 1) (d := a_many) rfl))) wkU))))) (sv_skip (sv_seq (e := fun (_ : Unit) => ([.A p (hF c cells), .P a_many, .U, .U] : Dm.Env)) (sv_hput 3 hJ rfl (ev_op o2_mod (Ev.x (ev_b1 o1_int (Ev.x (ev_op o2_add (Ev.x (ev_hget (cells := cells) 3 hJ rfl)) (Ev.x ev_int))))) (Ev.x ev_int)) wkU) (fun _ => (sv_ret (ev_op o2_mod (Ev.x (ev_b1 o1_int (Ev.x (ev_call (dds := []) (ea_cons (ev_hget (cells := cells) 3 hJ rfl) (ea_cons (ev_hget (cells := cells) 1 hJ rfl) ea_nil)))))) (Ev.x (ev_var (i := 1) (d := a_many) rfl))) wkU))))))) ⟨cells_hand (n := 2) hf r rfl, by simpa using wd⟩ (fun _ _ _ _ h => h) e
theorem sc__law_struck : FnScope ["_law_row_here", "_law_at"] ["_law_row_here"] (defScope s__law_struck) := ⟨rfl, rfl, rfl, by decide +kernel, rfl, by decide +kernel, by decide +kernel⟩
theorem ok__law_struck (T : Tx K mg A) : FnOk P w K mg base (L2.CX P w) 1 A.a__law_struck A.d__law_struck ["_law_row_here"] (spM (Zo K A) m__law_struck) :=
  T.F__law_struck.ok sc__law_struck (fun vs H Q E h => spM_len (fun S ds h => match ds, h with | [], _ => rfl | [_], h => absurd rfl h | _ :: _ :: _, _ => rfl) h) fun cdv A' outer s H vs Q E hr h => by
    obtain ⟨S, lay, G, s0, ds, wd, r, e⟩ := h
    match ds, r, e with
    | [], _, e => exact e.elim
    | _ :: _ :: _, _, e => exact e.elim
    | [a_row_here], r, e =>
    refine ⟨_, (pss_one (ps_ret (by exact (pe_lc (own := [("_law_at", 1)]) rfl sc__law_struck.nd (pi_range1 rfl T.n_range (pa_cons (pe_callB (call_lnK (K := K) rfl) rfl T.n_len rfl (pa_cons (pv 0) pa_nil)) pa_nil)) (blkOk_by (N := ["_law_row_here", "_law_at"]) (sc := defScope s__law_struck) (by decide +kernel)) (fun _ _ _ _ _ => by exact (pg_name (i := 1) sc__law_struck.nd rfl (Or.inl rfl))) (fun _ _ _ _ _ => by exact (pts_one (PW.pt (pw_or (pt_cmpR (op_eqK (K := K) rfl hr.units) (pv 1) pe_int (nomark _)) (pw_or1 (pt_cmpR (op_neK (K := K) rfl hr.units) (pe_ix (ix_seqK (K := K) rfl) (pv 0) (pv 1) (fun _ _ => rfl)) (pe_ix (ix_seqK (K := K) rfl) (pv 0) (pe_op op_sub (pv 1) pe_int) (fun _ _ => rfl)) (nomark _))))))) (fun _ _ _ _ _ => by exact (pe_ix (ix_seqK (K := K) rfl) (pv 0) (pv 1) (fun _ _ => rfl))))))), ?_⟩
    exact body_ok (ρ := [.P a_row_here, .U]) (J := ⟨Zo K A, lay, fun cls d _ H => E cls d H⟩) (esc := List.replicate 2 .U) (sv_ret (ev_new (el_lc (ei_r1 (ea_cons (ev_b1 o1_len (Ev.x (ev_var (i := 0) (d := a_row_here) rfl))) ea_nil)) (fun _ _ => (tg_name 1)) (fun t5 _ _ => (et_or (et_test (ev_op o2_eq (Ev.x (ev_var (i := 1) (d := t5) rfl)) (Ev.x ev_int))) (et_test (ev_op o2_ne (Ev.x (ev_op o2_ix (Ev.x (ev_var (i := 0) (d := a_row_here) rfl)) (Ev.x (ev_var (i := 1) (d := t5) rfl)))) (Ev.x (ev_op o2_ix (Ev.x (ev_var (i := 0) (d := a_row_here) rfl)) (Ev.x (ev_op o2_sub (Ev.x (ev_var (i := 1) (d := t5) rfl)) (Ev.x ev_int))))))))) (fun t5 _ _ => (ev_op o2_ix (Ev.x (ev_var (i := 0) (d := a_row_here) rfl)) (Ev.x (ev_var (i := 1) (d := t5) rfl)))) (hO := (List.forall_mem_cons.2 ⟨rfl, (List.forall_mem_nil _)⟩)))) wkU) ⟨cells_start (n := 1) r rfl, by simpa using wd⟩ (fun _ _ _ _ h => h) e
theorem sc__law_tuples : FnScope ["_law_thing", "_law_item"] ["_law_thing"] (defScope s__law_tuples) := ⟨rfl, rfl, rfl, by decide +kernel, rfl, by decide +kernel, by decide +kernel⟩
theorem ok__law_tuples (T : Tx K mg A) : ∀ k : Nat, FnOk P w K mg base (L2.CX P w) (1 + k) A.a__law_tuples A.d__law_tuples ["_law_thing"] (spM (Zo K A) (m__law_tuples k)) :=
  fun k => by
    induction k with
    | zero => exact T.F__law_tuples.ok sc__law_tuples (fun vs H Q E h => by obtain ⟨S, lay, G, s0, ds, wd, r, e⟩ := h; exact e.elim) fun cdv A' outer s H vs Q E hr h => by obtain ⟨S, lay, G, s0, ds, wd, r, e⟩ := h; exact e.elim
    | succ k ih =>
    refine T.F__law_tuples.ok sc__law_tuples (fun vs H Q E h => spM_len (fun S ds h => match ds, h with | [], _ => rfl | [_], h => absurd rfl h | _ :: _ :: _, _ => rfl) h) fun cdv A' outer s H vs Q E hr h => ?_
    obtain ⟨S, lay, G, s0, ds, wd, r, e⟩ := h
    match ds, r, e with
    | [], _, e => exact e.elim
    | _ :: _ :: _, _, e => exact e.elim
    | [a_thing], r, e =>
    refine ⟨_, (pss_cons (ps_if (pt_truK (K := K) rfl (pe_callB (call_isiK (K := K) rfl) rfl T.n_isinstance rfl (pa_cons (pv 0) (pa_cons (pe_bltn (v := .ty "tuple") rfl T.n_tuple rfl rfl) pa_nil))) (fun _ => rfl)) (pss_one (ps_ret (by exact (pe_notTK (K := K) rfl (pe_lc (own := [("_law_item", 1)]) rfl sc__law_tuples.nd (pi_sqK (K := K) rfl (pv 0)) (blkOk_by (N := ["_law_thing", "_law_item"]) (sc := defScope s__law_tuples) (by decide +kernel)) (fun _ _ _ _ _ => by exact (pg_name (i := 1) sc__law_tuples.nd rfl (Or.inl rfl))) (fun _ _ _ _ _ => by exact (pts_one (pt_not (pt_truK (K := K) rfl (pe_callSD ih (hr.mono (by first | decide | exact Nat.le_refl _ | omega)) rfl T.g__law_tuples T.F__law_tuples.kp T.b__law_tuples .nil (passN (fun _ _ _ _ q => q)) (by exact (pa_cons (pv 1) pa_nil))) (fun _ => rfl))))) (fun _ _ _ _ _ => by exact pe_int)))))) pss_nil) (pss_one (ps_ret (by exact (pe_or (pe_cmpR op_isN (pv 0) pe_non (nomark _)) (pe_one (pe_and (pe_callB (call_isiK (K := K) rfl) rfl T.n_isinstance rfl (pa_cons (pv 0) (pa_cons (pe_bltn (v := .ty "int") rfl T.n_int rfl rfl) pa_nil))) (pe_one (pe_not (pe_callB (call_isiK (K := K) rfl) rfl T.n_isinstance rfl (pa_cons (pv 0) (pa_cons (pe_bltn (v := .ty "bool") rfl T.n_bool rfl rfl) pa_nil)))))))))))), ?_⟩
    exact body_ok (ρ := [.P a_thing, .U]) (J := ⟨Zo K A, lay, fun cls d _ H => E cls d H⟩) (esc := List.replicate 2 .U) (sv_ifR (et_tru (Ev.x (ev_isa .tuple (Ev.x (ev_var (i := 0) (d := a_thing) rfl))))) wkU (sv_ret (ev_notT (Ev.x (ev_new (el_lc (ei_sq (ev_var (i := 0) (d := a_thing) rfl)) (fun _ _ => (tg_name 1)) (fun t5 _ _ => (et_not (et_tru (Ev.x (ev_call (dds := []) (ea_cons (ev_var (i := 1) (d := t5) rfl) ea_nil)))))) (fun t5 _ _ => ev_int) (hO := (List.forall_mem_cons.2 ⟨rfl, (List.forall_mem_nil _)⟩)))))) wkU) (sv_skip (sv_ret (ev_orV (ev_op o2_is (Ev.x (ev_var (i := 0) (d := a_thing) rfl)) (Ev.x ev_non)) (ev_andV (ev_isa .int (Ev.x (ev_var (i := 0) (d := a_thing) rfl))) (ev_notV (ev_isa .bool (Ev.x (ev_var (i := 0) (d := a_thing) rfl)))))) wkU))) ⟨cells_start (n := 1) r rfl, by simpa using wd⟩ (fun _ _ _ _ h => h) e
theorem sc__law_pick : FnScope ["_law_hand_here", "_law_things"] ["_law_hand_here", "_law_things"] (defScope s__law_pick) := ⟨rfl, rfl, rfl, by decide +kernel, rfl, by decide +kernel, by decide +kernel⟩
theorem ok__law_pick (T : Tx K mg A) : FnOk P w K mg base (L2.CX P w) 3 A.a__law_pick A.d__law_pick ["_law_hand_here", "_law_things"] (spD (Zo K A) m__law_pick) :=
  T.F__law_pick.ok sc__law_pick (fun vs H Q E h => spD_len (fun cs ds h => match ds, h with | [], _ => rfl | [_], h => absurd rfl h | _ :: _ :: _, _ => rfl) h) fun cdv A' outer s H vs Q E hr h => by
    obtain ⟨p, c, cells, L0, G, s0, vs', ds, rfl, hf, wd, r, e⟩ := h
    have hJ : HandJ (⟨Zo K A, fun h => (p, hHO c h) :: L0, fun cls d _ H => E cls d H⟩ : Jc Hd) p c := ⟨[], L0, fun _ => rfl⟩
    match ds, r, e with
    | [], _, e => exact e.elim
    | _ :: _ :: _, _, e => exact e.elim
    | [a_things], r, e =>
    refine ⟨_, (pss_one (ps_ret (by exact (pe_ix (ix_seqK (K := K) rfl) (pv 1) (pe_callSD (ok__law_take T) (hr.mono (by first | decide | exact Nat.le_refl _ | omega)) rfl T.g__law_take T.F__law_take.kp T.b__law_take .nil (fun σ => passAt (takes_of rfl rfl rfl rfl) σ) (by exact (pa_cons (pv 0) (pa_cons (pe_callB (call_lnK (K := K) rfl) rfl T.n_len rfl (pa_cons (pv 1) pa_nil)) pa_nil)))) (fun _ _ => rfl))))), ?_⟩
    exact bodyD_ok (ρ := [.A p (hF c cells), .P a_things]) (J := ⟨Zo K A, fun h => (p, hHO c h) :: L0, fun cls d _ H => E cls d H⟩) (esc := List.replicate 2 .U) (sv_ret (ev_op o2_ix (Ev.x (ev_var (i := 1) (d := a_things) rfl)) (Ev.x (ev_callD (dds := []) hJ rfl (ea_cons (ev_b1 o1_len (Ev.x (ev_var (i := 1) (d := a_things) rfl))) ea_nil)))) wkU) ⟨cells_hand (n := 0) hf r rfl, by simpa using wd⟩ (fun _ _ _ _ h => h) e
theorem sc__law_says : FnScope ["_law_thing", "_law_due"] ["_law_thing", "_law_due"] (defScope s__law_says) := ⟨rfl, rfl, rfl, by decide +kernel, rfl, by decide +kernel, by decide +kernel⟩
theorem ok__law_says (T : Tx K mg A) : FnOk P w K mg base (L2.CX P w) 1 A.a__law_says A.d__law_says ["_law_thing", "_law_due"] (spM (Zo K A) m__law_says) :=
  T.F__law_says.ok sc__law_says (fun vs H Q E h => spM_len (fun S ds h => match ds, h with | [], _ => rfl | [_], _ => rfl | [_, _], h => absurd rfl h | _ :: _ :: _ :: _, _ => rfl) h) fun cdv A' outer s H vs Q E hr h => by
    obtain ⟨S, lay, G, s0, ds, wd, r, e⟩ := h
    match ds, r, e with
    | [], _, e => exact e.elim
    | [_], _, e => exact e.elim
    | _ :: _ :: _ :: _, _, e => exact e.elim
    | [a_thing, a_due], r, e =>
    refine ⟨_, (pss_one (ps_ret (by exact (pe_and (pe_callB (call_isiK (K := K) rfl) rfl T.n_isinstance rfl (pa_cons (pv 0) (pa_cons (pe_bltn (v := .ty "bool") rfl T.n_bool rfl rfl) pa_nil))) (pe_one (pe_cmpR (op_eqK (K := K) rfl hr.units) (pv 0) (pv 1) (nomark _))))))), ?_⟩
    exact body_ok (ρ := [.P a_thing, .P a_due]) (J := ⟨Zo K A, lay, fun cls d _ H => E cls d H⟩) (esc := List.replicate 2 .U) (sv_ret (ev_andV (ev_isa .bool (Ev.x (ev_var (i := 0) (d := a_thing) rfl))) (ev_op o2_eq (Ev.x (ev_var (i := 0) (d := a_thing) rfl)) (Ev.x (ev_var (i := 1) (d := a_due) rfl)))) wkU) ⟨cells_start (n := 0) r rfl, by simpa using wd⟩ (fun _ _ _ _ h => h) e
theorem sc__law_tone : FnScope ["_law_hand_here", "_law_tones"] ["_law_hand_here", "_law_tones"] (defScope s__law_tone) := ⟨rfl, rfl, rfl, by decide +kernel, rfl, by decide +kernel, by decide +kernel⟩
theorem ok__law_tone (T : Tx K mg A) : FnOk P w K mg base (L2.CX P w) 3 A.a__law_tone A.d__law_tone ["_law_hand_here", "_law_tones"] (spD (Zo K A) m__law_tone) :=
  T.F__law_tone.ok sc__law_tone (fun vs H Q E h => spD_len (fun cs ds h => match ds, h with | [], _ => rfl | [_], h => absurd rfl h | _ :: _ :: _, _ => rfl) h) fun cdv A' outer s H vs Q E hr h => by
    obtain ⟨p, c, cells, L0, G, s0, vs', ds, rfl, hf, wd, r, e⟩ := h
    have hJ : HandJ (⟨Zo K A, fun h => (p, hHO c h) :: L0, fun cls d _ H => E cls d H⟩ : Jc Hd) p c := ⟨[], L0, fun _ => rfl⟩
    match ds, r, e with
    | [], _, e => exact e.elim
    | _ :: _ :: _, _, e => exact e.elim
    | [a_tones], r, e =>
    refine ⟨_, (pss_one (ps_ret (by exact (pe_ifExp (pt_cmpR (op_eqK (K := K) rfl hr.units) (pe_callSD (ok__law_take T) (hr.mono (by first | decide | exact Nat.le_refl _ | omega)) rfl T.g__law_take T.F__law_take.kp T.b__law_take .nil (fun σ => passAt (takes_of rfl rfl rfl rfl) σ) (by exact (pa_cons (pv 0) (pa_cons pe_int pa_nil)))) pe_int (nomark _)) (pe_callSD (ok__law_take T) (hr.mono (by first | decide | exact Nat.le_refl _ | omega)) rfl T.g__law_take T.F__law_take.kp T.b__law_take .nil (fun σ => passAt (takes_of rfl rfl rfl rfl) σ) (by exact (pa_cons (pv 0) (pa_cons pe_int pa_nil)))) (pe_callSD (ok__law_take T) (hr.mono (by first | decide | exact Nat.le_refl _ | omega)) rfl T.g__law_take T.F__law_take.kp T.b__law_take .nil (fun σ => passAt (takes_of rfl rfl rfl rfl) σ) (by exact (pa_cons (pv 0) (pa_cons (pv 1) pa_nil)))))))), ?_⟩
    exact bodyD_ok (ρ := [.A p (hF c cells), .P a_tones]) (J := ⟨Zo K A, fun h => (p, hHO c h) :: L0, fun cls d _ H => E cls d H⟩) (esc := List.replicate 2 .U) (sv_ret (ev_ifE (et_test (ev_op o2_eq (Ev.x (ev_callD (dds := []) hJ rfl (ea_cons ev_int ea_nil))) (Ev.x ev_int))) (ev_callD (dds := []) hJ rfl (ea_cons ev_int ea_nil)) (ev_callD (dds := []) hJ rfl (ea_cons (ev_var (i := 1) (d := a_tones) rfl) ea_nil))) wkU) ⟨cells_hand (n := 0) hf r rfl, by simpa using wd⟩ (fun _ _ _ _ h => h) e
theorem sc__law_row : FnScope ["_law_hand_here", "_law_most", "_law_tones", "_law_turn"] ["_law_hand_here", "_law_most", "_law_tones"] (defScope s__law_row) := ⟨rfl, rfl, rfl, by decide +kernel, rfl, by decide +kernel, by decide +kernel⟩
theorem ok__law_row (T : Tx K mg A) : FnOk P w K mg base (L2.CX P w) 4 A.a__law_row A.d__law_row ["_law_hand_here", "_law_most", "_law_tones"] (spD (Zo K A) m__law_row) :=
  T.F__law_row.ok sc__law_row (fun vs H Q E h => spD_len (fun cs ds h => match ds, h with | [], _ => rfl | [_], _ => rfl | [_, _], h => absurd rfl h | _ :: _ :: _ :: _, _ => rfl) h) fun cdv A' outer s H vs Q E hr h => by
    obtain ⟨p, c, cells, L0, G, s0, vs', ds, rfl, hf, wd, r, e⟩ := h
    have hJ : HandJ (⟨Zo K A, fun h => (p, hHO c h) :: L0, fun cls d _ H => E cls d H⟩ : Jc Hd) p c := ⟨[], L0, fun _ => rfl⟩
    match ds, r, e with
    | [], _, e => exact e.elim
    | [_], _, e => exact e.elim
    | _ :: _ :: _ :: _, _, e => exact e.elim
    | [a_most, a_tones], r, e =>
    refine ⟨_, (pss_one (ps_ret (by exact (pe_lc (own := [("_law_turn", 3)]) rfl sc__law_row.nd (pi_range1 rfl T.n_range (pa_cons (pe_callSD (ok__law_take T) (hr.mono (by first | decide | exact Nat.le_refl _ | omega)) rfl T.g__law_take T.F__law_take.kp T.b__law_take .nil (fun σ => passAt (takes_of rfl rfl rfl rfl) σ) (by exact (pa_cons (pv 0) (pa_cons (pe_op (op_addK (K := K) rfl) (pv 1) pe_int) pa_nil)))) pa_nil)) (blkOk_by (N := ["_law_hand_here", "_law_most", "_law_tones", "_law_turn"]) (sc := defScope s__law_row) (by decide +kernel)) (fun _ _ _ _ _ => by exact (pg_name (i := 3) sc__law_row.nd rfl (Or.inl rfl))) (fun _ _ _ _ _ => by exact pts_nil) (fun _ _ _ _ _ => by exact (pe_callSD (ok__law_tone T) (hr.mono (by first | decide | exact Nat.le_refl _ | omega)) rfl T.g__law_tone T.F__law_tone.kp T.b__law_tone .nil (passN (fun _ _ _ _ q => q)) (by exact (pa_cons (pv 0) (pa_cons (pv 2) pa_nil))))))))), ?_⟩
    exact bodyD_ok (ρ := [.A p (hF c cells), .P a_most, .P a_tones, .U]) (J := ⟨Zo K A, fun h => (p, hHO c h) :: L0, fun cls d _ H => E cls d H⟩) (esc := List.replicate 4 .U) (sv_ret (ev_new (el_lc (ei_r1 (ea_cons (ev_callD (dds := []) hJ rfl (ea_cons (ev_op o2_add (Ev.x (ev_var (i := 1) (d := a_most) rfl)) (Ev.x ev_int)) ea_nil)) ea_nil)) (fun _ _ => (tg_name 3)) (fun t9 _ _ => et_yes) (fun t9 _ _ => (ev_callD (dds := []) (HandJ.add hJ) rfl (ea_cons (ev_var (i := 2) (d := a_tones) rfl) ea_nil))) (hO := (List.forall_mem_cons.2 ⟨rfl, (List.forall_mem_nil _)⟩)))) wkU) ⟨cells_hand (n := 1) hf r rfl, by simpa using wd⟩ (fun _ _ _ _ h => h) e
theorem sc__law_varied : FnScope ["_law_hand_here", "_law_row_here", "_law_tones", "_law_most", "_law_out", "_law_kind", "_law_at", "_law_place"] ["_law_hand_here", "_law_row_here", "_law_tones", "_law_most"] (defScope s__law_varied) := ⟨rfl, rfl, rfl, by decide +kernel, rfl, by decide +kernel, by decide +kernel⟩
theorem ok__law_varied (T : Tx K mg A) : FnOk P w K mg base (L2.CX P w) 4 A.a__law_varied A.d__law_varied ["_law_hand_here", "_law_row_here", "_law_tones", "_law_most"] (spD (Zo K A) m__law_varied) :=
  T.F__law_varied.ok sc__law_varied (fun vs H Q E h => spD_len (fun cs ds h => match ds, h with | [], _ => rfl | [_], _ => rfl | [_, _], _ => rfl | [_, _, _], h => absurd rfl h | _ :: _ :: _ :: _ :: _, _ => rfl) h) fun cdv A' outer s H vs Q E hr h => by
    obtain ⟨p, c, cells, L0, G, s0, vs', ds, rfl, hf, wd, r, e⟩ := h
    have hJ : HandJ (⟨Zo K A, fun h => (p, hHO c h) :: L0, fun cls d _ H => E cls d H⟩ : Jc Hd) p c := ⟨[], L0, fun _ => rfl⟩
    match ds, r, e with
    | [], _, e => exact e.elim
    | [_], _, e => exact e.elim
    | [_, _], _, e => exact e.elim
    | _ :: _ :: _ :: _ :: _, _, e => exact e.elim
    | [a_row_here, a_tones, a_most], r, e =>
    refine ⟨_, (pss_cons (ps_set (i := 4) sc__law_varied.nd rfl (by first | exact Or.inl rfl | exact Or.inr rfl) (by exact (pe_callTy (call_lstK (K := K) rfl) rfl T.n_list rfl (pa_cons (pv 1) pa_nil)))) (pss_cons (ps_set (i := 5) sc__law_varied.nd rfl (by first | exact Or.inl rfl | exact Or.inr rfl) (by exact (pe_callSD (ok__law_take T) (hr.mono (by first | decide | exact Nat.le_refl _ | omega)) rfl T.g__law_take T.F__law_take.kp T.b__law_take .nil (fun σ => passAt (takes_of rfl rfl rfl rfl) σ) (by exact (pa_cons (pv 0) (pa_cons pe_int pa_nil)))))) (pss_cons (ps_set (i := 6) sc__law_varied.nd rfl (by first | exact Or.inl rfl | exact Or.inr rfl) (by exact (pe_callSD (ok__law_take T) (hr.mono (by first | decide | exact Nat.le_refl _ | omega)) rfl T.g__law_take T.F__law_take.kp T.b__law_take .nil (fun σ => passAt (takes_of rfl rfl rfl rfl) σ) (by exact (pa_cons (pv 0) (pa_cons (pe_op (op_addK (K := K) rfl) (pe_callB (call_lnK (K := K) rfl) rfl T.n_len rfl (pa_cons (pv 4) pa_nil)) pe_int) pa_nil)))))) (pss_cons (ps_if (PW.pt (pw_and (pt_cmpR (op_eqK (K := K) rfl hr.units) (pv 5) pe_int (nomark _)) (pw_and1 (pt_truK (K := K) rfl (pv 4) (fun _ => rfl))))) (pss_cons (ps_expr (pe_bm PySem.F.plainAttrs_list PySem.F.slot_list_insert PySem.F.type_list_insert mt_insert (pv 4) (pa_cons (pv 6) (pa_cons (pe_ix (ix_seqK (K := K) rfl) (pv 4) (pe_callB (call_min2 rfl) rfl T.n_min rfl (pa_cons (pv 6) (pa_cons (pe_op op_sub (pe_callB (call_lnK (K := K) rfl) rfl T.n_len rfl (pa_cons (pv 4) pa_nil)) pe_int) pa_nil))) (fun _ _ => rfl)) pa_nil)))) pss_nil) pss_nil) (pss_cons (ps_if (pt_cmpR (op_eqK (K := K) rfl hr.units) (pv 5) pe_int (nomark _)) (pss_cons (ps_expr (pe_bm PySem.F.plainAttrs_list PySem.F.slot_list_insert PySem.F.type_list_insert mt_insert (pv 4) (pa_cons pe_int (pa_cons (pe_callSD (ok__law_take T) (hr.mono (by first | decide | exact Nat.le_refl _ | omega)) rfl T.g__law_take T.F__law_take.kp T.b__law_take .nil (fun σ => passAt (takes_of rfl rfl rfl rfl) σ) (by exact (pa_cons (pv 0) (pa_cons (pv 2) pa_nil)))) pa_nil)))) pss_nil) pss_nil) (pss_cons (ps_if (PW.pt (pw_and (pt_cmpR (op_eqK (K := K) rfl hr.units) (pv 5) pe_int (nomark _)) (pw_and1 (pt_truK (K := K) rfl (pv 4) (fun _ => rfl))))) (pss_cons (ps_expr (pe_bm PySem.F.plainAttrs_list PySem.F.slot_list_pop PySem.F.type_list_pop mt_popAt (pv 4) (pa_cons (pe_callB (call_min2 rfl) rfl T.n_min rfl (pa_cons (pv 6) (pa_cons (pe_op op_sub (pe_callB (call_lnK (K := K) rfl) rfl T.n_len rfl (pa_cons (pv 4) pa_nil)) pe_int) pa_nil))) pa_nil))) pss_nil) pss_nil) (pss_cons (ps_if (pt_cmpR (op_eqK (K := K) rfl hr.units) (pv 5) pe_int (nomark _)) (pss_cons (ps_expr (pe_bm PySem.F.plainAttrs_list PySem.F.slot_list_insert PySem.F.type_list_insert mt_insert (pv 4) (pa_cons (pv 6) (pa_cons (pe_callSD (ok__law_tone T) (hr.mono (by first | decide | exact Nat.le_refl _ | omega)) rfl T.g__law_tone T.F__law_tone.kp T.b__law_tone .nil (fun σ => passAt (takes_of rfl rfl rfl rfl) σ) (by exact (pa_cons (pv 0) (pa_cons (pv 2) pa_nil)))) pa_nil)))) pss_nil) pss_nil) (pss_cons (ps_if (PW.pt (pw_and (pt_cmpR (op_eqK (K := K) rfl hr.units) (pv 5) pe_int (nomark _)) (pw_and1 (pt_cmpR op_gt (pe_callB (call_lnK (K := K) rfl) rfl T.n_len rfl (pa_cons (pv 4) pa_nil)) pe_int (nomark _))))) (pss_cons (ps_set (i := 7) sc__law_varied.nd rfl (by first | exact Or.inl rfl | exact Or.inr rfl) (by exact (pe_callB (call_min2 rfl) rfl T.n_min rfl (pa_cons (pv 6) (pa_cons (pe_op op_sub (pe_callB (call_lnK (K := K) rfl) rfl T.n_len rfl (pa_cons (pv 4) pa_nil)) pe_int) pa_nil))))) (pss_cons (ps_asg (pe_tup (pa_cons (pe_ix (ix_seqK (K := K) rfl) (pv 4) (pe_op (op_addK (K := K) rfl) (pv 7) pe_int) (fun _ _ => rfl)) (pa_cons (pe_ix (ix_seqK (K := K) rfl) (pv 4) (pv 7) (fun _ _ => rfl)) pa_nil))) (pg_tupK (K := K) rfl rfl (pgs_cons (pg_sub (pv 4) (pv 7) set_list) (pgs_cons (pg_sub (pv 4) (pe_op (op_addK (K := K) rfl) (pv 7) pe_int) set_list) pgs_nil)))) pss_nil)) pss_nil) (pss_cons (ps_if (PW.pt (pw_and (pt_cmpR (op_eqK (K := K) rfl hr.units) (pv 5) pe_int (nomark _)) (pw_and1 (pt_truK (K := K) rfl (pv 4) (fun _ => rfl))))) (pss_cons (ps_asg (pe_callSD (ok__law_tone T) (hr.mono (by first | decide | exact Nat.le_refl _ | omega)) rfl T.g__law_tone T.F__law_tone.kp T.b__law_tone .nil (fun σ => passAt (takes_of rfl rfl rfl rfl) σ) (by exact (pa_cons (pv 0) (pa_cons (pv 2) pa_nil)))) (pg_sub (pv 4) (pe_callB (call_min2 rfl) rfl T.n_min rfl (pa_cons (pv 6) (pa_cons (pe_op op_sub (pe_callB (call_lnK (K := K) rfl) rfl T.n_len rfl (pa_cons (pv 4) pa_nil)) pe_int) pa_nil))) set_list)) pss_nil) pss_nil) (pss_one (ps_ret (by exact (pe_slice (sl_anyK (K := K) rfl) (pv 4) po_none (po_some (pv 3))))))))))))))), ?_⟩
    exact bodyD_ok (ρ := [.A p (hF c cells), .P a_row_here, .P a_tones, .P a_most, .U, .U, .U, .U]) (J := ⟨Zo K A, fun h => (p, hHO c h) :: L0, fun cls d _ H => E cls d H⟩) (esc := List.replicate 8 .U) (sv_seq (e := fun (v_out_1 : List D) => ([.A p (hF c cells), .P a_row_here, .P a_tones, .P a_most, .O v_out_1, .U, .U, .U] : Dm.Env)) (sv_asgL (el_list (Ev.x (ev_var (i := 1) (d := a_row_here) rfl))) wkU (hi := Nat.le_of_ble_eq_true rfl)) (fun v_out_1 => (sv_seq (e := fun (v_kind_3 : D) => ([.A p (hF c cells), .P a_row_here, .P a_tones, .P a_most, .O v_out_1, .P v_kind_3, .U, .U] : Dm.Env)) (sv_asg (ev_callD (dds := []) hJ rfl (ea_cons ev_int ea_nil)) wkU) (fun v_kind_3 => (sv_seq (e := fun (v_at_7 : D) => ([.A p (hF c cells), .P a_row_here, .P a_tones, .P a_most, .O v_out_1, .P v_kind_3, .P v_at_7, .U] : Dm.Env)) (sv_asg (ev_callD (dds := []) hJ rfl (ea_cons (ev_op o2_add (Ev.x (ev_b1 o1_len (ex_own (i := 4) (ds := v_out_1) rfl))) (Ev.x ev_int)) ea_nil)) wkU) (fun v_at_7 => (sv_seq (e := fun (s20 : List D) => ([.A p (hF c cells), .P a_row_here, .P a_tones, .P a_most, .O s20, .P v_kind_3, .P v_at_7, .U] : Dm.Env)) (sv_if (et_and (et_test (ev_op o2_eq (Ev.x (ev_var (i := 5) (d := v_kind_3) rfl)) (Ev.x ev_int))) (et_tru (ex_own (i := 4) (ds := v_out_1) rfl))) wkU (sv_seq (e := fun (es21 : List D) => ([.A p (hF c cells), .P a_row_here, .P a_tones, .P a_most, .O es21, .P v_kind_3, .P v_at_7, .U] : Dm.Env)) (sv_ins (i := 4) rfl (ev_var (i := 6) (d := v_at_7) rfl) (ev_op o2_ix (ex_own (i := 4) (ds := v_out_1) rfl) (Ev.x (ev_b2 o2_min (Ev.x (ev_var (i := 6) (d := v_at_7) rfl)) (Ev.x (ev_op o2_sub (Ev.x (ev_b1 o1_len (ex_own (i := 4) (ds := v_out_1) rfl))) (Ev.x ev_int)))))) wkU) (fun es21 => (sv_to (g := fun _ => es21) sv_next (fun _ => (Wk.keep (Wk.keep (Wk.keep (Wk.keep (Wk.keep (Wk.keep (Wk.keep (Wk.keep Wk.nil)))))))))))) (sv_to (g := fun _ => v_out_1) sv_next (fun _ => (Wk.keep (Wk.keep (Wk.keep (Wk.keep (Wk.keep (Wk.keep (Wk.keep (Wk.keep Wk.nil))))))))))) (fun s20 => (sv_seq (e := fun (s35 : List D) => ([.A p (hF c cells), .P a_row_here, .P a_tones, .P a_most, .O s35, .P v_kind_3, .P v_at_7, .U] : Dm.Env)) (sv_if (et_test (ev_op o2_eq (Ev.x (ev_var (i := 5) (d := v_kind_3) rfl)) (Ev.x ev_int))) wkU (sv_seq (e := fun (es36 : List D) => ([.A p (hF c cells), .P a_row_here, .P a_tones, .P a_most, .O es36, .P v_kind_3, .P v_at_7, .U] : Dm.Env)) (sv_ins (i := 4) rfl ev_int (ev_callD (dds := []) hJ rfl (ea_cons (ev_var (i := 2) (d := a_tones) rfl) ea_nil)) wkU) (fun es36 => (sv_to (g := fun _ => es36) sv_next (fun _ => (Wk.keep (Wk.keep (Wk.keep (Wk.keep (Wk.keep (Wk.keep (Wk.keep (Wk.keep Wk.nil)))))))))))) (sv_to (g := fun _ => s20) sv_next (fun _ => (Wk.keep (Wk.keep (Wk.keep (Wk.keep (Wk.keep (Wk.keep (Wk.keep (Wk.keep Wk.nil))))))))))) (fun s35 => (sv_seq (e := fun (s48 : List D) => ([.A p (hF c cells), .P a_row_here, .P a_tones, .P a_most, .O s48, .P v_kind_3, .P v_at_7, .U] : Dm.Env)) (sv_if (et_and (et_test (ev_op o2_eq (Ev.x (ev_var (i := 5) (d := v_kind_3) rfl)) (Ev.x ev_int))) (et_tru (ex_own (i := 4) (ds := s35) rfl))) wkU (sv_seq (e := fun (es49 : List D) => ([.A p (hF c cells), .P a_row_here, .P a_tones, .P a_most, .O es49, .P v_kind_3, .P v_at_7, .U] : Dm.Env)) (sv_popA (i := 4) rfl (ev_b2 o2_min (Ev.x (ev_var (i := 6) (d := v_at_7) rfl)) (Ev.x (ev_op o2_sub (Ev.x (ev_b1 o1_len (ex_own (i := 4) (ds := s35) rfl))) (Ev.x ev_int)))) wkU) (fun es49 => (sv_to (g := fun _ => es49) sv_next (fun _ => (Wk.keep (Wk.keep (Wk.keep (Wk.keep (Wk.keep (Wk.keep (Wk.keep (Wk.keep Wk.nil)))))))))))) (sv_to (g := fun _ => s35) sv_next (fun _ => (Wk.keep (Wk.keep (Wk.keep (Wk.keep (Wk.keep (Wk.keep (Wk.keep (Wk.keep Wk.nil))))))))))) (fun s48 => (sv_seq (e := fun (s61 : List D) => ([.A p (hF c cells), .P a_row_here, .P a_tones, .P a_most, .O s61, .P v_kind_3, .P v_at_7, .U] : Dm.Env)) (sv_if (et_test (ev_op o2_eq (Ev.x (ev_var (i := 5) (d := v_kind_3) rfl)) (Ev.x ev_int))) wkU (sv_seq (e := fun (es62 : List D) => ([.A p (hF c cells), .P a_row_here, .P a_tones, .P a_most, .O es62, .P v_kind_3, .P v_at_7, .U] : Dm.Env)) (sv_ins (i := 4) rfl (ev_var (i := 6) (d := v_at_7) rfl) (ev_callD (dds := []) hJ rfl (ea_cons (ev_var (i := 2) (d := a_tones) rfl) ea_nil)) wkU) (fun es62 => (sv_to (g := fun _ => es62) sv_next (fun _ => (Wk.keep (Wk.keep (Wk.keep (Wk.keep (Wk.keep (Wk.keep (Wk.keep (Wk.keep Wk.nil)))))))))))) (sv_to (g := fun _ => s48) sv_next (fun _ => (Wk.keep (Wk.keep (Wk.keep (Wk.keep (Wk.keep (Wk.keep (Wk.keep (Wk.keep Wk.nil))))))))))) (fun s61 => (sv_seq (e := fun (s77 : List D) => ([.A p (hF c cells), .P a_row_here, .P a_tones, .P a_most, .O s77, .P v_kind_3, .P v_at_7, .U] : Dm.Env)) (sv_if (et_and (et_test (ev_op o2_eq (Ev.x (ev_var (i := 5) (d := v_kind_3) rfl)) (Ev.x ev_int))) (et_test (ev_op o2_gt (Ev.x (ev_b1 o1_len (ex_own (i := 4) (ds := s61) rfl))) (Ev.x ev_int)))) wkU (sv_seq (e := fun (v_place_78 : D) => ([.A p (hF c cells), .P a_row_here, .P a_tones, .P a_most, .O s61, .P v_kind_3, .P v_at_7, .P v_place_78] : Dm.Env)) (sv_asg (ev_b2 o2_min (Ev.x (ev_var (i := 6) (d := v_at_7) rfl)) (Ev.x (ev_op o2_sub (Ev.x (ev_b1 o1_len (ex_own (i := 4) (ds := s61) rfl))) (Ev.x ev_int)))) wkU) (fun v_place_78 => (sv_seq (e := fun (es94 : List D) => ([.A p (hF c cells), .P a_row_here, .P a_tones, .P a_most, .O es94, .P v_kind_3, .P v_at_7, .P v_place_78] : Dm.Env)) (sv_swap (i := 4) rfl (ea_cons (ev_op o2_ix (ex_own (i := 4) (ds := s61) rfl) (Ev.x (ev_op o2_add (Ev.x (ev_var (i := 7) (d := v_place_78) rfl)) (Ev.x ev_int)))) (ea_cons (ev_op o2_ix (ex_own (i := 4) (ds := s61) rfl) (Ev.x (ev_var (i := 7) (d := v_place_78) rfl))) ea_nil)) (fun _ => (ev_var (i := 7) (d := v_place_78) rfl)) (fun _ => (ev_op o2_add (Ev.x (ev_var (i := 7) (d := v_place_78) rfl)) (Ev.x ev_int))) wkU (fun _ => wkU)) (fun es94 => (sv_to (g := fun _ => es94) sv_next (fun _ => (Wk.keep (Wk.keep (Wk.keep (Wk.keep (Wk.keep (Wk.keep (Wk.keep (Wk.drop Wk.nil)))))))))))))) (sv_to (g := fun _ => s61) sv_next (fun _ => (Wk.keep (Wk.keep (Wk.keep (Wk.keep (Wk.keep (Wk.keep (Wk.keep (Wk.keep Wk.nil))))))))))) (fun s77 => (sv_seq (e := fun (s107 : List D) => ([.A p (hF c cells), .P a_row_here, .P a_tones, .P a_most, .O s107, .P v_kind_3, .P v_at_7, .U] : Dm.Env)) (sv_if (et_and (et_test (ev_op o2_eq (Ev.x (ev_var (i := 5) (d := v_kind_3) rfl)) (Ev.x ev_int))) (et_tru (ex_own (i := 4) (ds := s77) rfl))) wkU (sv_seq (e := fun (es118 : List D) => ([.A p (hF c cells), .P a_row_here, .P a_tones, .P a_most, .O es118, .P v_kind_3, .P v_at_7, .U] : Dm.Env)) (sv_setI (i := 4) rfl (ev_callD (dds := []) hJ rfl (ea_cons (ev_var (i := 2) (d := a_tones) rfl) ea_nil)) (ev_b2 o2_min (Ev.x (ev_var (i := 6) (d := v_at_7) rfl)) (Ev.x (ev_op o2_sub (Ev.x (ev_b1 o1_len (ex_own (i := 4) (ds := s77) rfl))) (Ev.x ev_int)))) wkU) (fun es118 => (sv_to (g := fun _ => es118) sv_next (fun _ => (Wk.keep (Wk.keep (Wk.keep (Wk.keep (Wk.keep (Wk.keep (Wk.keep (Wk.keep Wk.nil)))))))))))) (sv_to (g := fun _ => s77) sv_next (fun _ => (Wk.keep (Wk.keep (Wk.keep (Wk.keep (Wk.keep (Wk.keep (Wk.keep (Wk.keep Wk.nil))))))))))) (fun s107 => (sv_ret (ev_sl (ex_own (i := 4) (ds := s107) rfl) eo_none (eo_some (ev_var (i := 3) (d := a_most) rfl))) wkU))))))))))))))))))) ⟨cells_hand (n := 4) hf r rfl, by simpa using wd⟩ (fun _ _ _ _ h => h) e
theorem sc__law_strip : FnScope ["_law_row_here", "_law_head", "_law_out"] ["_law_row_here", "_law_head"] (defScope s__law_strip) := ⟨rfl, rfl, rfl, by decide +kernel, rfl, by decide +kernel, by decide +kernel⟩
theorem ok__law_strip (T : Tx K mg A) : FnOk P w K mg base (L2.CX P w) 2 A.a__law_strip A.d__law_strip ["_law_row_here", "_law_head"] (spM (Zo K A) m__law_strip) :=
  T.F__law_strip.ok sc__law_strip (fun vs H Q E h => spM_len (fun S ds h => match ds, h with | [], _ => rfl | [_], _ => rfl | [_, _], h => absurd rfl h | _ :: _ :: _ :: _, _ => rfl) h) fun cdv A' outer s H vs Q E hr h => by
    obtain ⟨S, lay, G, s0, ds, wd, r, e⟩ := h
    match ds, r, e with
    | [], _, e => exact e.elim
    | [_], _, e => exact e.elim
    | _ :: _ :: _ :: _, _, e => exact e.elim
    | [a_row_here, a_head], r, e =>
    refine ⟨_, (pss_cons (ps_set (i := 2) sc__law_strip.nd rfl (by first | exact Or.inl rfl | exact Or.inr rfl) (by exact (pe_callSD (ok__law_struck T) (hr.mono (by first | decide | exact Nat.le_refl _ | omega)) rfl T.g__law_struck T.F__law_struck.kp T.b__law_struck .nil (fun σ => passAt (takes_of rfl rfl rfl rfl) σ) (by exact (pa_cons (pv 0) pa_nil))))) (pss_one (ps_ret (by exact (pe_ifExp (PW.pt (pw_and (pt_cmpR op_notN (pv 1) pe_non (nomark _)) (pw_and1 (pt_cmpR (op_eqK (K := K) rfl hr.units) (pe_slice (sl_anyK (K := K) rfl) (pv 2) po_none (po_some pe_int)) (pe_lst (pa_cons (pv 1) pa_nil)) (nomark _))))) (pe_slice (sl_anyK (K := K) rfl) (pv 2) (po_some pe_int) po_none) (pv 2)))))), ?_⟩
    exact body_ok (ρ := [.P a_row_here, .P a_head, .U]) (J := ⟨Zo K A, lay, fun cls d _ H => E cls d H⟩) (esc := List.replicate 3 .U) (sv_seq (e := fun (v_out_1 : D) => ([.P a_row_here, .P a_head, .P v_out_1] : Dm.Env)) (sv_asg (ev_call (dds := []) (ea_cons (ev_var (i := 0) (d := a_row_here) rfl) ea_nil)) wkU) (fun v_out_1 => (sv_ret (ev_ifE (et_and (et_test (ev_op o2_nis (Ev.x (ev_var (i := 1) (d := a_head) rfl)) (Ev.x ev_non))) (et_test (ev_op o2_eq (Ev.x (ev_sl (Ev.x (ev_var (i := 2) (d := v_out_1) rfl)) eo_none (eo_some ev_int))) (Ev.x (ev_new (el_lst (ea_cons (ev_var (i := 1) (d := a_head) rfl) ea_nil))))))) (ev_sl (Ev.x (ev_var (i := 2) (d := v_out_1) rfl)) (eo_some ev_int) eo_none) (ev_var (i := 2) (d := v_out_1) rfl)) wkU))) ⟨cells_start (n := 1) r rfl, by simpa using wd⟩ (fun _ _ _ _ h => h) e
theorem sc__law_no_row : FnScope ["_law_hand_here", "_law_row_here", "_law_most", "_law_kind", "_law_out", "_law_at", "_law_late"] ["_law_hand_here", "_law_row_here", "_law_most"] (defScope s__law_no_row) := ⟨rfl, rfl, rfl, by decide +kernel, rfl, by decide +kernel, by decide +kernel⟩
theorem ok__law_no_row (T : Tx K mg A) : FnOk P w K mg base (L2.CX P w) 4 A.a__law_no_row A.d__law_no_row ["_law_hand_here", "_law_row_here", "_law_most"] (spD (Zo K A) m__law_no_row) :=
  T.F__law_no_row.ok sc__law_no_row (fun vs H Q E h => spD_len (fun cs ds h => match ds, h with | [], _ => rfl | [_], _ => rfl | [_, _], h => absurd rfl h | _ :: _ :: _ :: _, _ => rfl) h) fun cdv A' outer s H vs Q E hr h => by
    obtain ⟨p, c, cells, L0, G, s0, vs', ds, rfl, hf, wd, r, e⟩ := h
    have hJ : HandJ (⟨Zo K A, fun h => (p, hHO c h) :: L0, fun cls d _ H => E cls d H⟩ : Jc Hd) p c := ⟨[], L0, fun _ => rfl⟩
    match ds, r, e with
    | [], _, e => exact e.elim
    | [_], _, e => exact e.elim
    | _ :: _ :: _ :: _, _, e => exact e.elim
    | [a_row_here, a_most], r, e =>
    refine ⟨_, (pss_cons (ps_set (i := 3) sc__law_no_row.nd rfl (by first | exact Or.inl rfl | exact Or.inr rfl) (by exact (pe_callSD (ok__law_take T) (hr.mono (by first | decide | exact Nat.le_refl _ | omega)) rfl T.g__law_take T.F__law_take.kp T.b__law_take .nil (fun σ => passAt (takes_of rfl rfl rfl rfl) σ) (by exact (pa_cons (pv 0) (pa_cons pe_int pa_nil)))))) (pss_cons (ps_if (pt_cmpR (op_eqK (K := K) rfl hr.units) (pv 3) pe_int (nomark _)) (pss_one (ps_ret (by exact (pe_tup (pa_cons (pe_callSD (ok__law_pick T) (hr.mono (by first | decide | exact Nat.le_refl _ | omega)) rfl T.g__law_pick T.F__law_pick.kp T.b__law_pick .nil (fun σ => passAt (takes_of rfl rfl rfl rfl) σ) (by exact (pa_cons (pv 0) (pa_cons (pe_lst (pa_cons pe_non (pa_cons pe_int (pa_cons pe_str (pa_cons pe_dnewK (pa_cons pe_bl pa_nil)))))) pa_nil)))) (pa_cons pe_int pa_nil)))))) pss_nil) (pss_cons (ps_if (pt_cmpR (op_eqK (K := K) rfl hr.units) (pv 3) pe_int (nomark _)) (pss_one (ps_ret (by exact (pe_tup (pa_cons (pe_lc (own := [("_law_at", 5)]) rfl sc__law_no_row.nd (pi_range1 rfl T.n_range (pa_cons (pe_op (op_addK (K := K) rfl) (pv 2) pe_int) pa_nil)) (blkOk_by (N := ["_law_hand_here", "_law_row_here", "_law_most", "_law_kind", "_law_out", "_law_at", "_law_late"]) (sc := defScope s__law_no_row) (by decide +kernel)) (fun _ _ _ _ _ => by exact (pg_name (i := 5) sc__law_no_row.nd rfl (Or.inl rfl))) (fun _ _ _ _ _ => by exact pts_nil) (fun _ _ _ _ _ => by exact (pe_op op_modN (pe_callTy call_int1 rfl T.n_int rfl (pa_cons (pv 5) pa_nil)) pe_int))) (pa_cons pe_int pa_nil)))))) pss_nil) (pss_cons (ps_set (i := 4) sc__law_no_row.nd rfl (by first | exact Or.inl rfl | exact Or.inr rfl) (by exact (pe_slice (sl_anyK (K := K) rfl) (pe_callTy (call_lstK (K := K) rfl) rfl T.n_list rfl (pa_cons (pv 1) pa_nil)) po_none (po_some (pe_op op_sub (pv 2) pe_int))))) (pss_cons (ps_set (i := 5) sc__law_no_row.nd rfl (by first | exact Or.inl rfl | exact Or.inr rfl) (by exact (pe_callSD (ok__law_take T) (hr.mono (by first | decide | exact Nat.le_refl _ | omega)) rfl T.g__law_take T.F__law_take.kp T.b__law_take .nil (fun σ => passAt (takes_of rfl rfl rfl rfl) σ) (by exact (pa_cons (pv 0) (pa_cons (pe_op (op_addK (K := K) rfl) (pe_callB (call_lnK (K := K) rfl) rfl T.n_len rfl (pa_cons (pv 4) pa_nil)) pe_int) pa_nil)))))) (pss_cons (ps_expr (pe_bm PySem.F.plainAttrs_list PySem.F.slot_list_insert PySem.F.type_list_insert mt_insert (pv 4) (pa_cons (pv 5) (pa_cons (pe_callSD (ok__law_pick T) (hr.mono (by first | decide | exact Nat.le_refl _ | omega)) rfl T.g__law_pick T.F__law_pick.kp T.b__law_pick .nil (fun σ => passAt (takes_of rfl rfl rfl rfl) σ) (by exact (pa_cons (pv 0) (pa_cons (pe_lst (pa_cons pe_non (pa_cons pe_bl (pa_cons (pe_un un_neg pe_int) (pa_cons pe_int (pa_cons pe_str (pa_cons (pe_tup (pa_cons pe_int pa_nil)) (pa_cons (pe_op op_pow pe_int pe_int) pa_nil)))))))) pa_nil)))) pa_nil)))) (pss_cons (ps_if (PW.pt (pw_and (pt_cmpR (op_eqK (K := K) rfl hr.units) (pv 3) pe_int (nomark _)) (pw_and1 (pt_cmpR op_gt (pv 5) pe_int (nomark _))))) (pss_cons (ps_set (i := 6) sc__law_no_row.nd rfl (by first | exact Or.inl rfl | exact Or.inr rfl) (by exact (pe_op (op_addK (K := K) rfl) (pe_slice (sl_anyK (K := K) rfl) (pv 4) po_none (po_some (pv 5))) (pe_lst (pa_cons pe_int pa_nil))))) (pss_one (ps_ret (by exact (pe_ifExp (pt_cmpR op_lt (pe_callB (call_lnK (K := K) rfl) rfl T.n_len rfl (pa_cons (pv 6) pa_nil)) (pv 2) (nomark _)) (pe_tup (pa_cons (pe_callTy (call_tupK (K := K) rfl) rfl T.n_tuple rfl (pa_cons (pe_op (op_addK (K := K) rfl) (pv 6) (pe_lst (pa_cons pe_bl pa_nil))) pa_nil)) (pa_cons (pe_op (op_addK (K := K) rfl) (pv 5) pe_int) pa_nil))) (pe_tup (pa_cons (pe_callTy (call_tupK (K := K) rfl) rfl T.n_tuple rfl (pa_cons (pv 4) pa_nil)) (pa_cons (pv 5) pa_nil)))))))) pss_nil) (pss_one (ps_ret (by exact (pe_tup (pa_cons (pv 4) (pa_cons (pv 5) pa_nil))))))))))))), ?_⟩
    exact bodyD_ok (ρ := [.A p (hF c cells), .P a_row_here, .P a_most, .U, .U, .U, .U]) (J := ⟨Zo K A, fun h => (p, hHO c h) :: L0, fun cls d _ H => E cls d H⟩) (esc := List.replicate 7 .U) (sv_seq (e := fun (v_kind_1 : D) => ([.A p (hF c cells), .P a_row_here, .P a_most, .P v_kind_1, .U, .U, .U] : Dm.Env)) (sv_asg (ev_callD (dds := []) hJ rfl (ea_cons ev_int ea_nil)) wkU) (fun v_kind_1 => (sv_ifR (et_test (ev_op o2_eq (Ev.x (ev_var (i := 3) (d := v_kind_1) rfl)) (Ev.x ev_int))) wkU (sv_ret (ev_tup (ea_cons (ev_callD (dds := []) hJ rfl (ea_cons (ev_new (el_lst (ea_cons ev_non (ea_cons ev_int (ea_cons ev_str (ea_cons ev_dnew (ea_cons ev_bl ea_nil))))))) ea_nil)) (ea_cons ev_int ea_nil))) wkU) (sv_skip (sv_ifR (et_test (ev_op o2_eq (Ev.x (ev_var (i := 3) (d := v_kind_1) rfl)) (Ev.x ev_int))) wkU (sv_ret (ev_tup (ea_cons (ev_new (el_lc (ei_r1 (ea_cons (ev_op o2_add (Ev.x (ev_var (i := 2) (d := a_most) rfl)) (Ev.x ev_int)) ea_nil)) (fun _ _ => (tg_name 5)) (fun t40 _ _ => et_yes) (fun t40 _ _ => (ev_op o2_mod (Ev.x (ev_b1 o1_int (Ev.x (ev_var (i := 5) (d := t40) rfl)))) (Ev.x ev_int))) (hO := (List.forall_mem_cons.2 ⟨rfl, (List.forall_mem_nil _)⟩)))) (ea_cons ev_int ea_nil))) wkU) (sv_skip (sv_seq (e := fun (v_out_50 : List D) => ([.A p (hF c cells), .P a_row_here, .P a_most, .P v_kind_1, .O v_out_50, .U, .U] : Dm.Env)) (sv_asgL (el_sl (Ev.x (ev_new (el_list (Ev.x (ev_var (i := 1) (d := a_row_here) rfl))))) eo_none (eo_some (ev_op o2_sub (Ev.x (ev_var (i := 2) (d := a_most) rfl)) (Ev.x ev_int)))) wkU (hi := Nat.le_of_ble_eq_true rfl)) (fun v_out_50 => (sv_seq (e := fun (v_at_59 : D) => ([.A p (hF c cells), .P a_row_here, .P a_most, .P v_kind_1, .O v_out_50, .P v_at_59, .U] : Dm.Env)) (sv_asg (ev_callD (dds := []) hJ rfl (ea_cons (ev_op o2_add (Ev.x (ev_b1 o1_len (ex_own (i := 4) (ds := v_out_50) rfl))) (Ev.x ev_int)) ea_nil)) wkU) (fun v_at_59 => (sv_seq (e := fun (es66 : List D) => ([.A p (hF c cells), .P a_row_here, .P a_most, .P v_kind_1, .O es66, .P v_at_59, .U] : Dm.Env)) (sv_ins (i := 4) rfl (ev_var (i := 5) (d := v_at_59) rfl) (ev_callD (dds := []) hJ rfl (ea_cons (ev_new (el_lst (ea_cons ev_non (ea_cons ev_bl (ea_cons (ev_neg ev_int) (ea_cons ev_int (ea_cons ev_str (ea_cons (ev_tup (ea_cons ev_int ea_nil)) (ea_cons (ev_op o2_pow (Ev.x ev_int) (Ev.x ev_int)) ea_nil))))))))) ea_nil)) wkU) (fun es66 => (sv_ifR (et_and (et_test (ev_op o2_eq (Ev.x (ev_var (i := 3) (d := v_kind_1) rfl)) (Ev.x ev_int))) (et_test (ev_op o2_gt (Ev.x (ev_var (i := 5) (d := v_at_59) rfl)) (Ev.x ev_int)))) wkU (sv_seq (e := fun (v_late_102 : D) => ([.A p (hF c cells), .P a_row_here, .P a_most, .P v_kind_1, .O es66, .P v_at_59, .P v_late_102] : Dm.Env)) (sv_asg (ev_op o2_add (Ev.x (ev_sl (ex_own (i := 4) (ds := es66) rfl) eo_none (eo_some (ev_var (i := 5) (d := v_at_59) rfl)))) (Ev.x (ev_new (el_lst (ea_cons ev_int ea_nil))))) wkU) (fun v_late_102 => (sv_ret (ev_ifE (et_test (ev_op o2_lt (Ev.x (ev_b1 o1_len (Ev.x (ev_var (i := 6) (d := v_late_102) rfl)))) (Ev.x (ev_var (i := 2) (d := a_most) rfl)))) (ev_tup (ea_cons (ev_b1 o1_tuple (Ev.x (ev_op o2_add (Ev.x (ev_var (i := 6) (d := v_late_102) rfl)) (Ev.x (ev_new (el_lst (ea_cons ev_bl ea_nil))))))) (ea_cons (ev_op o2_add (Ev.x (ev_var (i := 5) (d := v_at_59) rfl)) (Ev.x ev_int)) ea_nil))) (ev_tup (ea_cons (ev_b1 o1_tuple (ex_own (i := 4) (ds := es66) rfl)) (ea_cons (ev_var (i := 5) (d := v_at_59) rfl) ea_nil)))) wkU))) (sv_skip (sv_frz (i := 4) (ds := es66) rfl <| (sv_ret (ev_tup (ea_cons (ev_var (i := 4) (d := (.lst es66)) rfl) (ea_cons (ev_var (i := 5) (d := v_at_59) rfl) ea_nil))) wkU)))))))))))))))) ⟨cells_hand (n := 4) hf r rfl, by simpa using wd⟩ (fun _ _ _ _ h => h) e
theorem sc__law_places : FnScope ["_law_row_here", "_law_within", "_law_found", "_law_begin", "_law_tone_here", "_law_here", "_law_at"] ["_law_row_here", "_law_within"] (defScope s__law_places) := ⟨rfl, rfl, rfl, by decide +kernel, rfl, by decide +kernel, by decide +kernel⟩
theorem ok__law_places (T : Tx K mg A) : FnOk P w K mg base (L2.CX P w) 1 A.a__law_places A.d__law_places ["_law_row_here", "_law_within"] (spM (Zo K A) m__law_places) :=
  T.F__law_places.ok sc__law_places (fun vs H Q E h => spM_len (fun S ds h => match ds, h with | [], _ => rfl | [_], _ => rfl | [_, _], h => absurd rfl h | _ :: _ :: _ :: _, _ => rfl) h) fun cdv A' outer s H vs Q E hr h => by
    obtain ⟨S, lay, G, s0, ds, wd, r, e⟩ := h
    match ds, r, e with
    | [], _, e => exact e.elim
    | [_], _, e => exact e.elim
    | _ :: _ :: _ :: _, _, e => exact e.elim
    | [a_row_here, a_within], r, e =>
    refine ⟨_, (pss_cons (ps_set (i := 2) sc__law_places.nd rfl (by first | exact Or.inl rfl | exact Or.inr rfl) (by exact (pe_lst pa_nil))) (pss_cons (ps_set (i := 3) sc__law_places.nd rfl (by first | exact Or.inl rfl | exact Or.inr rfl) (by exact pe_int)) (pss_cons (ps_for PassesOwn.leaving rfl (pi_sqK (K := K) rfl (pv 0)) (pg_name (i := 4) sc__law_places.nd rfl (by first | exact Or.inl rfl | exact Or.inr rfl)) (pss_cons (ps_setLc (i := 5) (own := [("_law_at", 6)]) rfl sc__law_places.nd rfl rfl (sw_true rfl rfl rfl (by decide +kernel)) (pi_range2 rfl T.n_range (pa_cons (pv 3) (pa_cons (pe_callB (call_lnK (K := K) rfl) rfl T.n_len rfl (pa_cons (pv 1) pa_nil)) pa_nil))) (blkOk_by (N := ["_law_row_here", "_law_within", "_law_found", "_law_begin", "_law_tone_here", "_law_here", "_law_at"]) (sc := defScope s__law_places) (by decide +kernel)) (fun _ _ _ _ _ => by exact (pg_name (i := 6) sc__law_places.nd rfl (Or.inl rfl))) (fun _ _ _ _ _ => by exact (pts_one (pt_cmpR (op_eqK (K := K) rfl hr.units) (pe_ix (ix_seqK (K := K) rfl) (pv 1) (pv 6) (fun _ _ => rfl)) (pv 4) (nomark _)))) (fun _ _ _ _ _ => by exact (pv 6))) (pss_cons (ps_if (pt_cmpR (op_eqK (K := K) rfl hr.units) (pv 5) (pe_lst pa_nil) (nomark _)) (pss_one (ps_ret (by exact pe_non))) pss_nil) (pss_cons (ps_expr (pe_bm PySem.F.plainAttrs_list PySem.F.slot_list_append PySem.F.type_list_append mt_append (pv 2) (pa_cons (pe_ix (ix_seqK (K := K) rfl) (pv 5) pe_int (fun _ _ => rfl)) pa_nil))) (pss_cons (ps_set (i := 3) sc__law_places.nd rfl (by first | exact Or.inl rfl | exact Or.inr rfl) (by exact (pe_op (op_addK (K := K) rfl) (pe_ix (ix_seqK (K := K) rfl) (pv 5) pe_int (fun _ _ => rfl)) pe_int))) pss_nil))))) (pss_one (ps_ret (by exact (pe_callTy (call_tupK (K := K) rfl) rfl T.n_tuple rfl (pa_cons (pv 2) pa_nil)))))))), ?_⟩
    exact body_ok (ρ := [.P a_row_here, .P a_within, .U, .U, .U, .U, .U]) (J := ⟨Zo K A, lay, fun cls d _ H => E cls d H⟩) (esc := List.replicate 7 .U) (sv_seq (e := fun (v_found_1 : List D) => ([.P a_row_here, .P a_within, .O v_found_1, .U, .U, .U, .U] : Dm.Env)) (sv_asgL (el_lst ea_nil) wkU (hi := Nat.le_of_ble_eq_true rfl)) (fun v_found_1 => (sv_seq (e := fun (v_begin_3 : D) => ([.P a_row_here, .P a_within, .O v_found_1, .P v_begin_3, .U, .U, .U] : Dm.Env)) (sv_asg ev_int wkU) (fun v_begin_3 => (sv_frD (e := fun (s5 : List D × D) => ([.P a_row_here, .P a_within, .O s5.1, .P s5.2, .U, .U, .U] : Dm.Env)) (sv_wk (Wk.keep (Wk.keep (Wk.keep (Wk.keep (Wk.keep (Wk.keep (Wk.keep Wk.nil))))))) (sv_forF (e := fun (s5 : List D × D) => ([.P a_row_here, .P a_within, .O s5.1, .P s5.2, .U, .U, .U] : Dm.Env)) (v_found_1, v_begin_3) (ei_sq (ev_var (i := 0) (d := a_row_here) rfl)) wkU (tg_name 4) (fun t6 s5 => (sv_seq (e := fun (v_here_7 : D) => ([.P a_row_here, .P a_within, .O s5.1, .P s5.2, .P t6, .P v_here_7, .U] : Dm.Env)) (sv_asg (ev_new (el_lc (ei_r2 (ea_cons (ev_var (i := 3) (d := s5.2) rfl) (ea_cons (ev_b1 o1_len (Ev.x (ev_var (i := 1) (d := a_within) rfl))) ea_nil))) (fun _ _ => (tg_name 6)) (fun t14 _ _ => (et_test (ev_op o2_eq (Ev.x (ev_op o2_ix (Ev.x (ev_var (i := 1) (d := a_within) rfl)) (Ev.x (ev_var (i := 6) (d := t14) rfl)))) (Ev.x (ev_var (i := 4) (d := t6) rfl))))) (fun t14 _ _ => (ev_var (i := 6) (d := t14) rfl)) (hO := (List.forall_mem_cons.2 ⟨rfl, (List.forall_mem_nil _)⟩)))) wkU) (fun v_here_7 => (sv_ifF (et_test (ev_op o2_eq (Ev.x (ev_var (i := 5) (d := v_here_7) rfl)) (Ev.x (ev_new (el_lst ea_nil))))) wkU (sv_to (g := Fx.rt) (sv_ret ev_non wkU) (fun _ => rfl)) (sv_skip (sv_seq (e := fun (es29 : List D) => ([.P a_row_here, .P a_within, .O es29, .P s5.2, .P t6, .P v_here_7, .U] : Dm.Env)) (sv_app (i := 2) rfl (ev_op o2_ix (Ev.x (ev_var (i := 5) (d := v_here_7) rfl)) (Ev.x ev_int)) wkU) (fun es29 => (sv_seq (e := fun (v_begin_34 : D) => ([.P a_row_here, .P a_within, .O es29, .P v_begin_34, .P t6, .P v_here_7, .U] : Dm.Env)) (sv_asg (ev_op o2_add (Ev.x (ev_op o2_ix (Ev.x (ev_var (i := 5) (d := v_here_7) rfl)) (Ev.x ev_int))) (Ev.x ev_int)) wkU) (fun v_begin_34 => (sv_to (g := fun _ => Fl.nx (es29, v_begin_34)) sv_next (fun _ => (Wk.keep (Wk.keep (Wk.keep (Wk.keep (Wk.drop (Wk.drop (Wk.keep Wk.nil)))))))))))))))))))) (fun s5 => (sv_ret (ev_b1 o1_tuple (ex_own (i := 2) (ds := s5.1) rfl)) wkU))))))) ⟨cells_start (n := 5) r rfl, by simpa using wd⟩ (fun _ _ _ _ h => h) e
theorem sc__law_asked : FnScope ["_law_kind", "_law_row_here", "_law_within", "_law_first", "raised"] ["_law_kind", "_law_row_here", "_law_within", "_law_first"] (defScope s__law_asked) := ⟨rfl, rfl, rfl, by decide +kernel, rfl, by decide +kernel, by decide +kernel⟩
theorem ok__law_asked (T : Tx K mg A) : FnOk P w K mg base (L2.CX P w) 7 A.a__law_asked A.d__law_asked ["_law_kind", "_law_row_here", "_law_within", "_law_first"] (spM (Zo K A) m__law_asked) :=
  T.F__law_asked.ok sc__law_asked (fun vs H Q E h => spM_len (fun S ds h => match ds, h with | [], _ => rfl | [_], _ => rfl | [_, _], _ => rfl | [_, _, _], _ => rfl | [_, _, _, _], h => absurd rfl h | _ :: _ :: _ :: _ :: _ :: _, _ => rfl) h) fun cdv A' outer s H vs Q E hr h => by
    obtain ⟨S, lay, G, s0, ds, wd, r, e⟩ := h
    match ds, r, e with
    | [], _, e => exact e.elim
    | [_], _, e => exact e.elim
    | [_, _], _, e => exact e.elim
    | [_, _, _], _, e => exact e.elim
    | _ :: _ :: _ :: _ :: _ :: _, _, e => exact e.elim
    | [a_kind, a_row_here, a_within, a_first], r, e =>
    refine ⟨_, (pss_one (ps_tryK (K := K) (Wo := fun cls d _ H => E cls d H) rfl rfl rfl sc__law_asked.nd (takes_of rfl rfl rfl rfl) (fun W pn xe tk po => (pss_cons (ps_if (pt_cmpR (op_eqK (K := K) rfl hr.units) (pv 0) pe_int (nomark _)) (pss_one (ps_ret (by exact (pe_callSD (ok_struck_row T) (hr.mono (by first | decide | exact Nat.le_refl _ | omega)) rfl T.g_struck_row T.F_struck_row.kp T.b_struck_row .nil (fun σ => passAt tk σ) (by exact (pa_cons (pv 1) pa_nil)))))) pss_nil) (pss_cons (ps_if (pt_cmpR (op_eqK (K := K) rfl hr.units) (pv 0) pe_int (nomark _)) (pss_one (ps_ret (by exact (pe_callSD (ok_hidden_places T) (hr.mono (by first | decide | exact Nat.le_refl _ | omega)) rfl T.g_hidden_places T.F_hidden_places.kp T.b_hidden_places .nil (fun σ => passAt tk σ) (by exact (pa_cons (pv 1) (pa_cons (pv 2) pa_nil))))))) pss_nil) (pss_cons (ps_if (pt_cmpR (op_eqK (K := K) rfl hr.units) (pv 0) pe_int (nomark _)) (pss_one (ps_ret (by exact (pe_callSD (ok_is_hidden T) (hr.mono (by first | decide | exact Nat.le_refl _ | omega)) rfl T.g_is_hidden T.F_is_hidden.kp T.b_is_hidden .nil (fun σ => passAt tk σ) (by exact (pa_cons (pv 1) (pa_cons (pv 2) pa_nil))))))) pss_nil) (pss_one (ps_ret (by exact (pe_callSD (ok_least_equal_row T) (hr.mono (by first | decide | exact Nat.le_refl _ | omega)) rfl T.g_least_equal_row T.F_least_equal_row.kp T.b_least_equal_row .nil (fun σ => passAt tk σ) (by exact (pa_cons (pv 1) (pa_cons (pv 3) pa_nil))))))))))) (HdsA.cons (n := some "raised") (i := some 4) ⟨rfl, by decide, Or.inl T.g_BadRow⟩ ⟨rfl, rfl⟩ (fun a oe cls d pn hz hf => (pss_one (ps_ret (by exact (pe_tup (pa_cons pe_str (pa_cons (pe_xf T.x_BadRow T.h_BadRow_index hz hf (pv 4)) pa_nil))))))) (HdsA.cons (n := some "raised") (i := some 4) ⟨rfl, by decide, Or.inl T.g_BadColour⟩ ⟨rfl, rfl⟩ (fun a oe cls d pn hz hf => (pss_one (ps_ret (by exact (pe_tup (pa_cons pe_str (pa_cons (pe_xf T.x_BadColour T.h_BadColour_colour hz hf (pv 4)) pa_nil))))))) HdsA.nil)))), ?_⟩
    exact body_ok (ρ := [.P a_kind, .P a_row_here, .P a_within, .P a_first, .U]) (J := ⟨Zo K A, lay, fun cls d _ H => E cls d H⟩) (esc := List.replicate 5 .U) (sv_tryK (n := 2) (escB := List.replicate 5 .U) tl_gone (exZ T) (fun X1 => sv_J (J2 := ⟨Zo K A, lay, X1⟩) rfl (sv_ifR (et_test (ev_op o2_eq (Ev.x (ev_var (i := 0) (d := a_kind) rfl)) (Ev.x ev_int))) wkU (sv_ret (ev_call (dds := []) (ea_cons (ev_var (i := 1) (d := a_row_here) rfl) ea_nil)) wkU) (sv_skip (sv_ifR (et_test (ev_op o2_eq (Ev.x (ev_var (i := 0) (d := a_kind) rfl)) (Ev.x ev_int))) wkU (sv_ret (ev_call (dds := []) (ea_cons (ev_var (i := 1) (d := a_row_here) rfl) (ea_cons (ev_var (i := 2) (d := a_within) rfl) ea_nil))) wkU) (sv_skip (sv_ifR (et_test (ev_op o2_eq (Ev.x (ev_var (i := 0) (d := a_kind) rfl)) (Ev.x ev_int))) wkU (sv_ret (ev_call (dds := []) (ea_cons (ev_var (i := 1) (d := a_row_here) rfl) (ea_cons (ev_var (i := 2) (d := a_within) rfl) ea_nil))) wkU) (sv_skip (sv_ret (ev_call (dds := []) (ea_cons (ev_var (i := 1) (d := a_row_here) rfl) (ea_cons (ev_var (i := 3) (d := a_first) rfl) ea_nil))) wkU)))))))) (HsS.name (c := 1) (i := 4) (fun a dx fs37 => sv_J (J2 := ⟨Zo K A, lay, fun _ _ _ _ => False⟩) rfl (sv_ret (ev_tup (ea_cons ev_str (ea_cons (ev_xf (f := "index") rfl) ea_nil))) (wk_refl _))) (HsS.name (c := 0) (i := 4) (fun a dx fs31 => sv_J (J2 := ⟨Zo K A, lay, fun _ _ _ _ => False⟩) rfl (sv_ret (ev_tup (ea_cons ev_str (ea_cons (ev_xf (f := "colour") rfl) ea_nil))) (wk_refl _))) HsS.nil)) (List.forall_mem_cons.2 ⟨Nat.le_of_ble_eq_true rfl, (List.forall_mem_cons.2 ⟨Nat.le_of_ble_eq_true rfl, (List.forall_mem_nil _)⟩)⟩) wkU) ⟨cells_start (n := 1) r rfl, by simpa using wd⟩ (fun _ _ _ _ h => h) e
theorem sc__law_refusals : FnScope ["_law_hand_here", "_law_row_here", "_law_within", "_law_bad", "_law_index", "_law_worse", "_law_later", "_law_odd", "_law_kind"] ["_law_hand_here", "_law_row_here", "_law_within"] (defScope s__law_refusals) := ⟨rfl, rfl, rfl, by decide +kernel, rfl, by decide +kernel, by decide +kernel⟩
theorem ok__law_refusals (T : Tx K mg A) : FnOk P w K mg base (L2.CX P w) 8 A.a__law_refusals A.d__law_refusals ["_law_hand_here", "_law_row_here", "_law_within"] (spD (Zo K A) m__law_refusals) :=
  T.F__law_refusals.ok sc__law_refusals (fun vs H Q E h => spD_len (fun cs ds h => match ds, h with | [], _ => rfl | [_], _ => rfl | [_, _], h => absurd rfl h | _ :: _ :: _ :: _, _ => rfl) h) fun cdv A' outer s H vs Q E hr h => by
    obtain ⟨p, c, cells, L0, G, s0, vs', ds, rfl, hf, wd, r, e⟩ := h
    have hJ : HandJ (⟨Zo K A, fun h => (p, hHO c h) :: L0, fun cls d _ H => E cls d H⟩ : Jc Hd) p c := ⟨[], L0, fun _ => rfl⟩
    match ds, r, e with
    | [], _, e => exact e.elim
    | [_], _, e => exact e.elim
    | _ :: _ :: _ :: _, _, e => exact e.elim
    | [a_row_here, a_within], r, e =>
    refine ⟨_, (pss_cons (ps_asg (pe_callSD (ok__law_no_row T) (hr.mono (by first | decide | exact Nat.le_refl _ | omega)) rfl T.g__law_no_row T.F__law_no_row.kp T.b__law_no_row .nil (fun σ => passAt (takes_of rfl rfl rfl rfl) σ) (by exact (pa_cons (pv 0) (pa_cons (pv 1) (pa_cons pe_int pa_nil))))) (pg_tupK (K := K) (n := 2) rfl rfl (pgs_cons (pg_name (i := 3) sc__law_refusals.nd rfl (by first | exact Or.inl rfl | exact Or.inr rfl)) (pgs_cons (pg_name (i := 4) sc__law_refusals.nd rfl (by first | exact Or.inl rfl | exact Or.inr rfl)) pgs_nil)))) (pss_cons (ps_asg (pe_callSD (ok__law_no_row T) (hr.mono (by first | decide | exact Nat.le_refl _ | omega)) rfl T.g__law_no_row T.F__law_no_row.kp T.b__law_no_row .nil (fun σ => passAt (takes_of rfl rfl rfl rfl) σ) (by exact (pa_cons (pv 0) (pa_cons (pv 2) (pa_cons pe_int pa_nil))))) (pg_tupK (K := K) (n := 2) rfl rfl (pgs_cons (pg_name (i := 5) sc__law_refusals.nd rfl (by first | exact Or.inl rfl | exact Or.inr rfl)) (pgs_cons (pg_name (i := 6) sc__law_refusals.nd rfl (by first | exact Or.inl rfl | exact Or.inr rfl)) pgs_nil)))) (pss_cons (ps_set (i := 7) sc__law_refusals.nd rfl (by first | exact Or.inl rfl | exact Or.inr rfl) (by exact (pe_callSD (ok__law_pick T) (hr.mono (by first | decide | exact Nat.le_refl _ | omega)) rfl T.g__law_pick T.F__law_pick.kp T.b__law_pick .nil (fun σ => passAt (takes_of rfl rfl rfl rfl) σ) (by exact (pa_cons (pv 0) (pa_cons (pe_lst (pa_cons (pe_un un_neg pe_int) (pa_cons pe_int (pa_cons pe_bl (pa_cons pe_str (pa_cons (pe_tup (pa_cons pe_int pa_nil)) (pa_cons (pe_op op_pow pe_int pe_int) (pa_cons (pe_tup (pa_cons pe_int (pa_cons pe_int pa_nil))) pa_nil)))))))) pa_nil)))))) (pss_cons (ps_if (PW.pt (pw_or (pt_cmpR (op_neK (K := K) rfl hr.units) (pe_callSD (ok__law_asked T) (hr.mono (by first | decide | exact Nat.le_refl _ | omega)) rfl T.g__law_asked T.F__law_asked.kp T.b__law_asked .nil (fun σ => passAt (takes_of rfl rfl rfl rfl) σ) (by exact (pa_cons pe_int (pa_cons (pv 3) (pa_cons pe_non (pa_cons pe_non pa_nil)))))) (pe_tup (pa_cons pe_str (pa_cons (pv 4) pa_nil))) (nomark _)) (pw_or1 (pt_cmpR (op_neK (K := K) rfl hr.units) (pe_callSD (ok__law_asked T) (hr.mono (by first | decide | exact Nat.le_refl _ | omega)) rfl T.g__law_asked T.F__law_asked.kp T.b__law_asked .nil (fun σ => passAt (takes_of rfl rfl rfl rfl) σ) (by exact (pa_cons pe_int (pa_cons (pv 3) (pa_cons pe_non (pa_cons (pv 7) pa_nil)))))) (pe_tup (pa_cons pe_str (pa_cons (pv 4) pa_nil))) (nomark _))))) (pss_one (ps_ret (by exact pe_bl))) pss_nil) (pss_cons (ps_for PassesOwn.leaving rfl (pi_sqK (K := K) rfl (pe_tup (pa_cons pe_int (pa_cons pe_int pa_nil)))) (pg_name (i := 8) sc__law_refusals.nd rfl (by first | exact Or.inl rfl | exact Or.inr rfl)) (pss_one (ps_if (PW.pt (pw_or (pt_cmpR (op_neK (K := K) rfl hr.units) (pe_callSD (ok__law_asked T) (hr.mono (by first | decide | exact Nat.le_refl _ | omega)) rfl T.g__law_asked T.F__law_asked.kp T.b__law_asked .nil (fun σ => passAt (takes_of rfl rfl rfl rfl) σ) (by exact (pa_cons (pv 8) (pa_cons (pv 3) (pa_cons (pv 5) (pa_cons pe_non pa_nil)))))) (pe_tup (pa_cons pe_str (pa_cons (pv 4) pa_nil))) (nomark _)) (pw_or1 (pt_cmpR (op_neK (K := K) rfl hr.units) (pe_callSD (ok__law_asked T) (hr.mono (by first | decide | exact Nat.le_refl _ | omega)) rfl T.g__law_asked T.F__law_asked.kp T.b__law_asked .nil (fun σ => passAt (takes_of rfl rfl rfl rfl) σ) (by exact (pa_cons (pv 8) (pa_cons (pv 1) (pa_cons (pv 5) (pa_cons pe_non pa_nil)))))) (pe_tup (pa_cons pe_str (pa_cons (pv 6) pa_nil))) (nomark _))))) (pss_one (ps_ret (by exact pe_bl))) pss_nil))) (pss_one (ps_ret (by exact (pe_cmpR (op_eqK (K := K) rfl hr.units) (pe_callSD (ok__law_asked T) (hr.mono (by first | decide | exact Nat.le_refl _ | omega)) rfl T.g__law_asked T.F__law_asked.kp T.b__law_asked .nil (fun σ => passAt (takes_of rfl rfl rfl rfl) σ) (by exact (pa_cons pe_int (pa_cons (pv 1) (pa_cons pe_non (pa_cons (pv 7) pa_nil)))))) (pe_tup (pa_cons pe_str (pa_cons (pv 7) pa_nil))) (nomark _)))))))))), ?_⟩
    exact bodyD_ok (ρ := [.A p (hF c cells), .P a_row_here, .P a_within, .U, .U, .U, .U, .U, .U]) (J := ⟨Zo K A, fun h => (p, hHO c h) :: L0, fun cls d _ H => E cls d H⟩) (esc := List.replicate 9 .U) (sv_seq (e := fun (t6 : D × D) => ([.A p (hF c cells), .P a_row_here, .P a_within, .P t6.1, .P t6.2, .U, .U, .U, .U] : Dm.Env)) (sv_asgT (ev_callD (dds := []) hJ rfl (ea_cons (ev_var (i := 1) (d := a_row_here) rfl) (ea_cons ev_int ea_nil))) wkU (tg_pair 3 4)) (fun t6 => (sv_seq (e := fun (t13 : D × D) => ([.A p (hF c cells), .P a_row_here, .P a_within, .P t6.1, .P t6.2, .P t13.1, .P t13.2, .U, .U] : Dm.Env)) (sv_asgT (ev_callD (dds := []) hJ rfl (ea_cons (ev_var (i := 2) (d := a_within) rfl) (ea_cons ev_int ea_nil))) wkU (tg_pair 5 6)) (fun t13 => (sv_seq (e := fun (v_odd_15 : D) => ([.A p (hF c cells), .P a_row_here, .P a_within, .P t6.1, .P t6.2, .P t13.1, .P t13.2, .P v_odd_15, .U] : Dm.Env)) (sv_asg (ev_callD (dds := []) hJ rfl (ea_cons (ev_new (el_lst (ea_cons (ev_neg ev_int) (ea_cons ev_int (ea_cons ev_bl (ea_cons ev_str (ea_cons (ev_tup (ea_cons ev_int ea_nil)) (ea_cons (ev_op o2_pow (Ev.x ev_int) (Ev.x ev_int)) (ea_cons (ev_tup (ea_cons ev_int (ea_cons ev_int ea_nil))) ea_nil))))))))) ea_nil)) wkU) (fun v_odd_15 => (sv_ifR (et_or (et_test (ev_op o2_ne (Ev.x (ev_call (dds := []) (ea_cons ev_int (ea_cons (ev_var (i := 3) (d := t6.1) rfl) (ea_cons ev_non (ea_cons ev_non ea_nil)))))) (Ev.x (ev_tup (ea_cons ev_str (ea_cons (ev_var (i := 4) (d := t6.2) rfl) ea_nil)))))) (et_test (ev_op o2_ne (Ev.x (ev_call (dds := []) (ea_cons ev_int (ea_cons (ev_var (i := 3) (d := t6.1) rfl) (ea_cons ev_non (ea_cons (ev_var (i := 7) (d := v_odd_15) rfl) ea_nil)))))) (Ev.x (ev_tup (ea_cons ev_str (ea_cons (ev_var (i := 4) (d := t6.2) rfl) ea_nil))))))) wkU (sv_ret ev_bl wkU) (sv_skip (sv_frD (e := fun (s88 : Unit) => ([.A p (hF c cells), .P a_row_here, .P a_within, .P t6.1, .P t6.2, .P t13.1, .P t13.2, .P v_odd_15, .U] : Dm.Env)) (sv_wk (Wk.keep (Wk.keep (Wk.keep (Wk.keep (Wk.keep (Wk.keep (Wk.keep (Wk.keep (Wk.keep Wk.nil))))))))) (sv_forF (e := fun (s88 : Unit) => ([.A p (hF c cells), .P a_row_here, .P a_within, .P t6.1, .P t6.2, .P t13.1, .P t13.2, .P v_odd_15, .U] : Dm.Env)) () (ei_sq (ev_tup (ea_cons ev_int (ea_cons ev_int ea_nil)))) wkU (tg_name 8) (fun t89 s88 => (sv_if (et_or (et_test (ev_op o2_ne (Ev.x (ev_call (dds := []) (ea_cons (ev_var (i := 8) (d := t89) rfl) (ea_cons (ev_var (i := 3) (d := t6.1) rfl) (ea_cons (ev_var (i := 5) (d := t13.1) rfl) (ea_cons ev_non ea_nil)))))) (Ev.x (ev_tup (ea_cons ev_str (ea_cons (ev_var (i := 4) (d := t6.2) rfl) ea_nil)))))) (et_test (ev_op o2_ne (Ev.x (ev_call (dds := []) (ea_cons (ev_var (i := 8) (d := t89) rfl) (ea_cons (ev_var (i := 1) (d := a_row_here) rfl) (ea_cons (ev_var (i := 5) (d := t13.1) rfl) (ea_cons ev_non ea_nil)))))) (Ev.x (ev_tup (ea_cons ev_str (ea_cons (ev_var (i := 6) (d := t13.2) rfl) ea_nil))))))) wkU (sv_to (g := Fl.rt) (sv_ret ev_bl wkU) (fun _ => rfl)) (sv_to (g := fun _ => Fl.nx ()) sv_next (fun _ => (Wk.keep (Wk.keep (Wk.keep (Wk.keep (Wk.keep (Wk.keep (Wk.keep (Wk.keep (Wk.drop Wk.nil))))))))))))))) (fun s88 => (sv_ret (ev_op o2_eq (Ev.x (ev_call (dds := []) (ea_cons ev_int (ea_cons (ev_var (i := 1) (d := a_row_here) rfl) (ea_cons ev_non (ea_cons (ev_var (i := 7) (d := v_odd_15) rfl) ea_nil)))))) (Ev.x (ev_tup (ea_cons ev_str (ea_cons (ev_var (i := 7) (d := v_odd_15) rfl) ea_nil))))) wkU))))))))))) ⟨cells_hand (n := 6) hf r rfl, by simpa using wd⟩ (fun _ _ _ _ h => h) e
theorem sc__law_right : FnScope ["_law_row_here", "_law_within", "_law_first", "_law_struck_here", "_law_due", "_law_told", "_law_inner", "_law_least"] ["_law_row_here", "_law_within", "_law_first"] (defScope s__law_right) := ⟨rfl, rfl, rfl, by decide +kernel, rfl, by decide +kernel, by decide +kernel⟩
theorem ok__law_right (T : Tx K mg A) : FnOk P w K mg base (L2.CX P w) 7 A.a__law_right A.d__law_right ["_law_row_here", "_law_within", "_law_first"] (spM (Zo K A) m__law_right) :=
  T.F__law_right.ok sc__law_right (fun vs H Q E h => spM_len (fun S ds h => match ds, h with | [], _ => rfl | [_], _ => rfl | [_, _], _ => rfl | [_, _, _], h => absurd rfl h | _ :: _ :: _ :: _ :: _, _ => rfl) h) fun cdv A' outer s H vs Q E hr h => by
    obtain ⟨S, lay, G, s0, ds, wd, r, e⟩ := h
    match ds, r, e with
    | [], _, e => exact e.elim
    | [_], _, e => exact e.elim
    | [_, _], _, e => exact e.elim
    | _ :: _ :: _ :: _ :: _, _, e => exact e.elim
    | [a_row_here, a_within, a_first], r, e =>
    refine ⟨_, (pss_cons (ps_set (i := 3) sc__law_right.nd rfl (by first | exact Or.inl rfl | exact Or.inr rfl) (by exact (pe_callSD (ok_struck_row T) (hr.mono (by first | decide | exact Nat.le_refl _ | omega)) rfl T.g_struck_row T.F_struck_row.kp T.b_struck_row .nil (fun σ => passAt (takes_of rfl rfl rfl rfl) σ) (by exact (pa_cons (pv 0) pa_nil))))) (pss_cons (ps_if (PW.pt (pw_or (pt_cmpR (op_neK (K := K) rfl hr.units) (pv 3) (pe_callTy (call_tupK (K := K) rfl) rfl T.n_tuple rfl (pa_cons (pe_callSD (ok__law_struck T) (hr.mono (by first | decide | exact Nat.le_refl _ | omega)) rfl T.g__law_struck T.F__law_struck.kp T.b__law_struck .nil (fun σ => passAt (takes_of rfl rfl rfl rfl) σ) (by exact (pa_cons (pv 0) pa_nil))) pa_nil)) (nomark _)) (pw_or (pt_not (pt_truK (K := K) rfl (pe_callSD (ok__law_tuples T 3) (hr.mono (by first | decide | exact Nat.le_refl _ | omega)) rfl T.g__law_tuples T.F__law_tuples.kp T.b__law_tuples .nil (fun σ => passAt (takes_of rfl rfl rfl rfl) σ) (by exact (pa_cons (pv 3) pa_nil))) (fun _ => rfl))) (pw_or1 (pt_cmpR (op_neK (K := K) rfl hr.units) (pe_callSD (ok_struck_row T) (hr.mono (by first | decide | exact Nat.le_refl _ | omega)) rfl T.g_struck_row T.F_struck_row.kp T.b_struck_row .nil (fun σ => passAt (takes_of rfl rfl rfl rfl) σ) (by exact (pa_cons (pv 3) pa_nil))) (pv 3) (nomark _)))))) (pss_one (ps_ret (by exact pe_bl))) pss_nil) (pss_cons (ps_set (i := 4) sc__law_right.nd rfl (by first | exact Or.inl rfl | exact Or.inr rfl) (by exact (pe_callSD (ok__law_places T) (hr.mono (by first | decide | exact Nat.le_refl _ | omega)) rfl T.g__law_places T.F__law_places.kp T.b__law_places .nil (fun σ => passAt (takes_of rfl rfl rfl rfl) σ) (by exact (pa_cons (pv 0) (pa_cons (pv 1) pa_nil)))))) (pss_cons (ps_set (i := 5) sc__law_right.nd rfl (by first | exact Or.inl rfl | exact Or.inr rfl) (by exact (pe_callSD (ok_hidden_places T) (hr.mono (by first | decide | exact Nat.le_refl _ | omega)) rfl T.g_hidden_places T.F_hidden_places.kp T.b_hidden_places .nil (fun σ => passAt (takes_of rfl rfl rfl rfl) σ) (by exact (pa_cons (pe_callTy (call_tupK (K := K) rfl) rfl T.n_tuple rfl (pa_cons (pv 0) pa_nil)) (pa_cons (pv 1) pa_nil)))))) (pss_cons (ps_if (PW.pt (pw_or (pt_cmpR (op_neK (K := K) rfl hr.units) (pv 5) (pv 4) (nomark _)) (pw_or (PW.pt (pw_and (pt_cmpR op_notN (pv 5) pe_non (nomark _)) (pw_and1 (pt_not (pt_truK (K := K) rfl (pe_callSD (ok__law_tuples T 3) (hr.mono (by first | decide | exact Nat.le_refl _ | omega)) rfl T.g__law_tuples T.F__law_tuples.kp T.b__law_tuples .nil (fun σ => passAt (takes_of rfl rfl rfl rfl) σ) (by exact (pa_cons (pv 5) pa_nil))) (fun _ => rfl)))))) (pw_or1 (pt_not (pt_truK (K := K) rfl (pe_callSD (ok__law_says T) (hr.mono (by first | decide | exact Nat.le_refl _ | omega)) rfl T.g__law_says T.F__law_says.kp T.b__law_says .nil (fun σ => passAt (takes_of rfl rfl rfl rfl) σ) (by exact (pa_cons (pe_callSD (ok_is_hidden T) (hr.mono (by first | decide | exact Nat.le_refl _ | omega)) rfl T.g_is_hidden T.F_is_hidden.kp T.b_is_hidden .nil (fun σ => passAt (takes_of rfl rfl rfl rfl) σ) (by exact (pa_cons (pv 0) (pa_cons (pe_callTy (call_tupK (K := K) rfl) rfl T.n_tuple rfl (pa_cons (pv 1) pa_nil)) pa_nil)))) (pa_cons (pe_cmpR op_notN (pv 4) pe_non (nomark _)) pa_nil)))) (fun _ => rfl))))))) (pss_one (ps_ret (by exact pe_bl))) pss_nil) (pss_cons (ps_set (i := 6) sc__law_right.nd rfl (by first | exact Or.inl rfl | exact Or.inr rfl) (by exact (pe_callSD (ok__law_strip T) (hr.mono (by first | decide | exact Nat.le_refl _ | omega)) rfl T.g__law_strip T.F__law_strip.kp T.b__law_strip .nil (fun σ => passAt (takes_of rfl rfl rfl rfl) σ) (by exact (pa_cons (pv 0) (pa_cons (pv 2) pa_nil)))))) (pss_cons (ps_set (i := 7) sc__law_right.nd rfl (by first | exact Or.inl rfl | exact Or.inr rfl) (by exact (pe_ifExp (pt_cmpR op_isN (pv 2) pe_non (nomark _)) (pe_callSD (ok_least_equal_row T) (hr.mono (by first | decide | exact Nat.le_refl _ | omega)) rfl T.g_least_equal_row T.F_least_equal_row.kp T.b_least_equal_row_1.choose_spec.2 T.b_least_equal_row_1.choose_spec.1 (fun σ => passAt (takes_of rfl rfl rfl rfl) σ) (by exact (pa_cons (pv 0) pa_nil))) (pe_callSD (ok_least_equal_row T) (hr.mono (by first | decide | exact Nat.le_refl _ | omega)) rfl T.g_least_equal_row T.F_least_equal_row.kp T.b_least_equal_row .nil (fun σ => passAt (takes_of rfl rfl rfl rfl) σ) (by exact (pa_cons (pv 0) (pa_cons (pv 2) pa_nil))))))) (pss_one (ps_ret (by exact (pe_and (pe_cmpR (op_eqK (K := K) rfl hr.units) (pv 7) (pe_callTy (call_tupK (K := K) rfl) rfl T.n_tuple rfl (pa_cons (pv 6) pa_nil)) (nomark _)) (pe_and (pe_callSD (ok__law_tuples T 3) (hr.mono (by first | decide | exact Nat.le_refl _ | omega)) rfl T.g__law_tuples T.F__law_tuples.kp T.b__law_tuples .nil (fun σ => passAt (takes_of rfl rfl rfl rfl) σ) (by exact (pa_cons (pv 7) pa_nil))) (pe_one (pe_cmpR (op_eqK (K := K) rfl hr.units) (pe_callN (ok_least_equal_row T) (hr.mono (by first | decide | exact Nat.le_refl _ | omega)) rfl T.g_least_equal_row T.F_least_equal_row.kp T.kw_least_equal_row_first.choose_spec (passE (takes_of rfl rfl rfl rfl)) (by exact (pa_cons (pv 7) pa_nil)) (by exact (pk_cons (pv 2) pk_nil))) (pv 7) (nomark _))))))))))))))), ?_⟩
    exact body_ok (ρ := [.P a_row_here, .P a_within, .P a_first, .U, .U, .U, .U, .U]) (J := ⟨Zo K A, lay, fun cls d _ H => E cls d H⟩) (esc := List.replicate 8 .U) (sv_seq (e := fun (v_struck_here_1 : D) => ([.P a_row_here, .P a_within, .P a_first, .P v_struck_here_1, .U, .U, .U, .U] : Dm.Env)) (sv_asg (ev_call (dds := []) (ea_cons (ev_var (i := 0) (d := a_row_here) rfl) ea_nil)) wkU) (fun v_struck_here_1 => (sv_ifR (et_or (et_test (ev_op o2_ne (Ev.x (ev_var (i := 3) (d := v_struck_here_1) rfl)) (Ev.x (ev_b1 o1_tuple (Ev.x (ev_call (dds := []) (ea_cons (ev_var (i := 0) (d := a_row_here) rfl) ea_nil))))))) (et_or (et_not (et_tru (Ev.x (ev_call (dds := []) (ea_cons (ev_var (i := 3) (d := v_struck_here_1) rfl) ea_nil))))) (et_test (ev_op o2_ne (Ev.x (ev_call (dds := []) (ea_cons (ev_var (i := 3) (d := v_struck_here_1) rfl) ea_nil))) (Ev.x (ev_var (i := 3) (d := v_struck_here_1) rfl)))))) wkU (sv_ret ev_bl wkU) (sv_skip (sv_seq (e := fun (v_due_26 : D) => ([.P a_row_here, .P a_within, .P a_first, .P v_struck_here_1, .P v_due_26, .U, .U, .U] : Dm.Env)) (sv_asg (ev_call (dds := []) (ea_cons (ev_var (i := 0) (d := a_row_here) rfl) (ea_cons (ev_var (i := 1) (d := a_within) rfl) ea_nil))) wkU) (fun v_due_26 => (sv_seq (e := fun (v_told_32 : D) => ([.P a_row_here, .P a_within, .P a_first, .P v_struck_here_1, .P v_due_26, .P v_told_32, .U, .U] : Dm.Env)) (sv_asg (ev_call (dds := []) (ea_cons (ev_b1 o1_tuple (Ev.x (ev_var (i := 0) (d := a_row_here) rfl))) (ea_cons (ev_var (i := 1) (d := a_within) rfl) ea_nil))) wkU) (fun v_told_32 => (sv_ifR (et_or (et_test (ev_op o2_ne (Ev.x (ev_var (i := 5) (d := v_told_32) rfl)) (Ev.x (ev_var (i := 4) (d := v_due_26) rfl)))) (et_or (et_and (et_test (ev_op o2_nis (Ev.x (ev_var (i := 5) (d := v_told_32) rfl)) (Ev.x ev_non))) (et_not (et_tru (Ev.x (ev_call (dds := []) (ea_cons (ev_var (i := 5) (d := v_told_32) rfl) ea_nil)))))) (et_not (et_tru (Ev.x (ev_call (dds := []) (ea_cons (ev_call (dds := []) (ea_cons (ev_var (i := 0) (d := a_row_here) rfl) (ea_cons (ev_b1 o1_tuple (Ev.x (ev_var (i := 1) (d := a_within) rfl))) ea_nil))) (ea_cons (ev_op o2_nis (Ev.x (ev_var (i := 4) (d := v_due_26) rfl)) (Ev.x ev_non)) ea_nil)))))))) wkU (sv_ret ev_bl wkU) (sv_skip (sv_seq (e := fun (v_inner_69 : D) => ([.P a_row_here, .P a_within, .P a_first, .P v_struck_here_1, .P v_due_26, .P v_told_32, .P v_inner_69, .U] : Dm.Env)) (sv_asg (ev_call (dds := []) (ea_cons (ev_var (i := 0) (d := a_row_here) rfl) (ea_cons (ev_var (i := 2) (d := a_first) rfl) ea_nil))) wkU) (fun v_inner_69 => (sv_seq (e := fun (v_least_75 : D) => ([.P a_row_here, .P a_within, .P a_first, .P v_struck_here_1, .P v_due_26, .P v_told_32, .P v_inner_69, .P v_least_75] : Dm.Env)) (sv_asg (ev_ifE (et_test (ev_op o2_is (Ev.x (ev_var (i := 2) (d := a_first) rfl)) (Ev.x ev_non))) (ev_call (dds := [.non]) (ea_cons (ev_var (i := 0) (d := a_row_here) rfl) ea_nil)) (ev_call (dds := []) (ea_cons (ev_var (i := 0) (d := a_row_here) rfl) (ea_cons (ev_var (i := 2) (d := a_first) rfl) ea_nil)))) wkU) (fun v_least_75 => (sv_ret (ev_andV (ev_op o2_eq (Ev.x (ev_var (i := 7) (d := v_least_75) rfl)) (Ev.x (ev_b1 o1_tuple (Ev.x (ev_var (i := 6) (d := v_inner_69) rfl))))) (ev_andV (ev_call (dds := []) (ea_cons (ev_var (i := 7) (d := v_least_75) rfl) ea_nil)) (ev_op o2_eq (Ev.x (ev_callN (gD := fun ds es => ds ++ es) (ea_cons (ev_var (i := 7) (d := v_least_75) rfl) ea_nil) (ea_cons (ev_var (i := 2) (d := a_first) rfl) ea_nil) (fun _ _ _ _ q => q) (fun _ _ _ _ _ r1 r2 _ _ => RpAll.append r1 r2))) (Ev.x (ev_var (i := 7) (d := v_least_75) rfl))))) wkU))))))))))))))) ⟨cells_start (n := 5) r rfl, by simpa using wd⟩ (fun _ _ _ _ h => h) e
theorem sc_law : FnScope ["_law_script", "_law_hand_here", "_law_turn", "_law_tones", "_law_most", "_law_within", "_law_row_here", "_law_first", "_law_kept", "_law_tone_here", "_law_at"] ["_law_script"] (defScope s_law) := ⟨rfl, rfl, rfl, by decide +kernel, rfl, by decide +kernel, by decide +kernel⟩
theorem ok_law (T : Tx K mg A) (hm : ∀ (cells : List Int) (tot : Int), cells.length ≤ 63 → ∃ s, m_law cells ⟨0, 0, tot⟩ = .ok (.bl true) s) : FnOk P w K mg base (L2.CX P w) 9 A.a_law A.d_law ["_law_script"] (spLaw K) :=
  T.F_law.ok sc_law (fun vs H Q E h => by obtain ⟨a, ns, rfl, _⟩ := h; rfl) fun cdv A' outer s H vs Q E hr h => by
    refine ⟨_, pss_cons (ps_set (i := 1) sc_law.nd rfl (by first | exact Or.inl rfl | exact Or.inr rfl) (by exact (pe_callSD (ok__law_hand T) (hr.mono (by first | decide | exact Nat.le_refl _ | omega)) rfl T.g__law_hand T.F__law_hand.kp T.b__law_hand .nil (fun σ => passAt (takes_of rfl rfl rfl rfl) σ) (by exact (pa_cons (pv 0) pa_nil)))) ) (pss_cons (ps_for PassesOwn.leaving rfl (pi_range1 rfl T.n_range (pa_cons pe_int pa_nil)) (pg_name (i := 2) sc_law.nd rfl (by first | exact Or.inl rfl | exact Or.inr rfl)) (pss_cons (ps_set (i := 3) sc_law.nd rfl (by first | exact Or.inl rfl | exact Or.inr rfl) (by exact (pe_callSD (ok__law_pick T) (hr.mono (by first | decide | exact Nat.le_refl _ | omega)) rfl T.g__law_pick T.F__law_pick.kp T.b__law_pick .nil (fun σ => passAt (takes_of rfl rfl rfl rfl) σ) (by exact (pa_cons (pv 1) (pa_cons (pe_lst (pa_cons pe_int (pa_cons pe_int (pa_cons pe_int (pa_cons pe_int (pa_cons pe_int pa_nil)))))) pa_nil)))))) (pss_cons (ps_set (i := 4) sc_law.nd rfl (by first | exact Or.inl rfl | exact Or.inr rfl) (by exact (pe_ifExp (pt_cmpR (op_eqK (K := K) rfl hr.units) (pe_callSD (ok__law_take T) (hr.mono (by first | decide | exact Nat.le_refl _ | omega)) rfl T.g__law_take T.F__law_take.kp T.b__law_take .nil (fun σ => passAt (takes_of rfl rfl rfl rfl) σ) (by exact (pa_cons (pv 1) (pa_cons pe_int pa_nil)))) pe_int (nomark _)) pe_int pe_int))) (pss_cons (ps_set (i := 5) sc_law.nd rfl (by first | exact Or.inl rfl | exact Or.inr rfl) (by exact (pe_callSD (ok__law_row T) (hr.mono (by first | decide | exact Nat.le_refl _ | omega)) rfl T.g__law_row T.F__law_row.kp T.b__law_row .nil (fun σ => passAt (takes_of rfl rfl rfl rfl) σ) (by exact (pa_cons (pv 1) (pa_cons (pv 4) (pa_cons (pv 3) pa_nil))))))) (pss_cons (ps_if (PW.pt (pw_and (pt_cmpR (op_eqK (K := K) rfl hr.units) (pv 4) pe_int (nomark _)) (pw_and1 (pt_cmpR (op_eqK (K := K) rfl hr.units) (pe_callSD (ok__law_take T) (hr.mono (by first | decide | exact Nat.le_refl _ | omega)) rfl T.g__law_take T.F__law_take.kp T.b__law_take .nil (fun σ => passAt (takes_of rfl rfl rfl rfl) σ) (by exact (pa_cons (pv 1) (pa_cons pe_int pa_nil)))) pe_int (nomark _))))) (pss_cons (ps_setLc (i := 5) (own := [("_law_at", 10)]) rfl sc_law.nd rfl rfl (sw_true rfl rfl rfl (by decide +kernel)) (pi_range1 rfl T.n_range (pa_cons pe_int pa_nil)) (blkOk_by (N := ["_law_script", "_law_hand_here", "_law_turn", "_law_tones", "_law_most", "_law_within", "_law_row_here", "_law_first", "_law_kept", "_law_tone_here", "_law_at"]) (sc := defScope s_law) (by decide +kernel)) (fun _ _ _ _ _ => by exact (pg_name (i := 10) sc_law.nd rfl (Or.inl rfl))) (fun _ _ _ _ _ => by exact pts_nil) (fun _ _ _ _ _ => by exact (pe_callSD (ok__law_tone T) (hr.mono (by first | decide | exact Nat.le_refl _ | omega)) rfl T.g__law_tone T.F__law_tone.kp T.b__law_tone .nil (passN (fun _ _ _ _ q => q)) (by exact (pa_cons (pv 1) (pa_cons (pv 3) pa_nil)))))) pss_nil) pss_nil) (pss_cons (ps_setLc (i := 6) (own := [("_law_tone_here", 9)]) rfl sc_law.nd rfl rfl (sw_true rfl rfl rfl (by decide +kernel)) (pi_sqK (K := K) rfl (pv 5)) (blkOk_by (N := ["_law_script", "_law_hand_here", "_law_turn", "_law_tones", "_law_most", "_law_within", "_law_row_here", "_law_first", "_law_kept", "_law_tone_here", "_law_at"]) (sc := defScope s_law) (by decide +kernel)) (fun _ _ _ _ _ => by exact (pg_name (i := 9) sc_law.nd rfl (Or.inl rfl))) (fun _ _ _ _ _ => by exact (pts_one (pt_cmpR (op_eqK (K := K) rfl hr.units) (pe_callSD (ok__law_take T) (hr.mono (by first | decide | exact Nat.le_refl _ | omega)) rfl T.g__law_take T.F__law_take.kp T.b__law_take .nil (passN (fun _ _ _ _ q => q)) (by exact (pa_cons (pv 1) (pa_cons pe_int pa_nil)))) pe_int (nomark _)))) (fun _ _ _ _ _ => by exact (pv 9))) (pss_cons (ps_if (pt_cmpR (op_eqK (K := K) rfl hr.units) (pe_callSD (ok__law_take T) (hr.mono (by first | decide | exact Nat.le_refl _ | omega)) rfl T.g__law_take T.F__law_take.kp T.b__law_take .nil (fun σ => passAt (takes_of rfl rfl rfl rfl) σ) (by exact (pa_cons (pv 1) (pa_cons pe_int pa_nil)))) pe_int (nomark _)) (pss_cons (ps_set (i := 6) sc_law.nd rfl (by first | exact Or.inl rfl | exact Or.inr rfl) (by exact (pe_callSD (ok__law_varied T) (hr.mono (by first | decide | exact Nat.le_refl _ | omega)) rfl T.g__law_varied T.F__law_varied.kp T.b__law_varied .nil (fun σ => passAt (takes_of rfl rfl rfl rfl) σ) (by exact (pa_cons (pv 1) (pa_cons (pv 6) (pa_cons (pv 3) (pa_cons pe_int pa_nil)))))))) pss_nil) pss_nil) (pss_cons (ps_if (pt_cmpR (op_eqK (K := K) rfl hr.units) (pe_callSD (ok__law_take T) (hr.mono (by first | decide | exact Nat.le_refl _ | omega)) rfl T.g__law_take T.F__law_take.kp T.b__law_take .nil (fun σ => passAt (takes_of rfl rfl rfl rfl) σ) (by exact (pa_cons (pv 1) (pa_cons pe_int pa_nil)))) pe_int (nomark _)) (pss_cons (ps_set (i := 6) sc_law.nd rfl (by first | exact Or.inl rfl | exact Or.inr rfl) (by exact (pe_callSD (ok__law_varied T) (hr.mono (by first | decide | exact Nat.le_refl _ | omega)) rfl T.g__law_varied T.F__law_varied.kp T.b__law_varied .nil (fun σ => passAt (takes_of rfl rfl rfl rfl) σ) (by exact (pa_cons (pv 1) (pa_cons (pv 5) (pa_cons (pv 3) (pa_cons pe_int pa_nil)))))))) pss_nil) pss_nil) (pss_cons (ps_set (i := 7) sc_law.nd rfl (by first | exact Or.inl rfl | exact Or.inr rfl) (by exact (pe_callSD (ok__law_pick T) (hr.mono (by first | decide | exact Nat.le_refl _ | omega)) rfl T.g__law_pick T.F__law_pick.kp T.b__law_pick .nil (fun σ => passAt (takes_of rfl rfl rfl rfl) σ) (by exact (pa_cons (pv 1) (pa_cons (pe_lst (pa_cons pe_non (pa_cons pe_int (pa_cons pe_int (pa_cons (pe_ix (ix_seqK (K := K) rfl) (pe_op (op_addK (K := K) rfl) (pv 6) (pe_lst (pa_cons pe_int pa_nil))) pe_int (fun _ _ => rfl)) pa_nil))))) pa_nil)))))) (pss_cons (ps_set (i := 8) sc_law.nd rfl (by first | exact Or.inl rfl | exact Or.inr rfl) (by exact (pe_tup (pa_cons (pe_callTy (call_lstK (K := K) rfl) rfl T.n_list rfl (pa_cons (pv 6) pa_nil)) (pa_cons (pe_callTy (call_lstK (K := K) rfl) rfl T.n_list rfl (pa_cons (pv 5) pa_nil)) pa_nil))))) (pss_cons (ps_if (PW.pt (pw_or (pt_not (pt_truK (K := K) rfl (pe_callSD (ok__law_right T) (hr.mono (by first | decide | exact Nat.le_refl _ | omega)) rfl T.g__law_right T.F__law_right.kp T.b__law_right .nil (fun σ => passAt (takes_of rfl rfl rfl rfl) σ) (by exact (pa_cons (pv 6) (pa_cons (pv 5) (pa_cons (pv 7) pa_nil))))) (fun _ => rfl))) (pw_or1 (pt_not (pt_truK (K := K) rfl (pe_callSD (ok__law_right T) (hr.mono (by first | decide | exact Nat.le_refl _ | omega)) rfl T.g__law_right T.F__law_right.kp T.b__law_right .nil (fun σ => passAt (takes_of rfl rfl rfl rfl) σ) (by exact (pa_cons (pv 5) (pa_cons (pv 6) (pa_cons (pv 7) pa_nil))))) (fun _ => rfl)))))) (pss_one (ps_ret (by exact pe_bl))) pss_nil) (pss_one (ps_if (PW.pt (pw_or (pt_not (pt_truK (K := K) rfl (pe_callSD (ok__law_refusals T) (hr.mono (by first | decide | exact Nat.le_refl _ | omega)) rfl T.g__law_refusals T.F__law_refusals.kp T.b__law_refusals .nil (fun σ => passAt (takes_of rfl rfl rfl rfl) σ) (by exact (pa_cons (pv 1) (pa_cons (pv 6) (pa_cons (pv 5) pa_nil))))) (fun _ => rfl))) (pw_or (pt_not (pt_truK (K := K) rfl (pe_callSD (ok__law_right T) (hr.mono (by first | decide | exact Nat.le_refl _ | omega)) rfl T.g__law_right T.F__law_right.kp T.b__law_right .nil (fun σ => passAt (takes_of rfl rfl rfl rfl) σ) (by exact (pa_cons (pv 6) (pa_cons (pv 5) (pa_cons (pv 7) pa_nil))))) (fun _ => rfl))) (pw_or1 (pt_cmpR (op_neK (K := K) rfl hr.units) (pe_tup (pa_cons (pv 6) (pa_cons (pv 5) pa_nil))) (pv 8) (nomark _)))))) (pss_one (ps_ret (by exact pe_bl))) pss_nil))))))))))))) (pss_one (ps_ret (by exact pe_bl)))), ?_⟩
    refine law_ok (Z := Zo K A) (X := fun cls d _ H => E cls d H) (n := 10) (i := 1) (m := m_law) h rfl (by decide) (fun p c cells => ?_) hm
    have hJ : HandJ (⟨Zo K A, fun h => [(p, hHO c h)], fun cls d _ H => E cls d H⟩ : Jc Hd) p c := ⟨[], [], fun _ => rfl⟩
    exact sv_rho (ρ := [.U, .A p (hF c cells), .U, .U, .U, .U, .U, .U, .U, .U, .U]) rfl (sv_frD (e := fun (s4 : Unit) => ([.U, .A p (hF c cells), .U, .U, .U, .U, .U, .U, .U, .U, .U] : Dm.Env)) (sv_wk (Wk.keep (Wk.keep (Wk.keep (Wk.keep (Wk.keep (Wk.keep (Wk.keep (Wk.keep (Wk.keep (Wk.keep (Wk.keep Wk.nil))))))))))) (sv_forF (e := fun (s4 : Unit) => ([.U, .A p (hF c cells), .U, .U, .U, .U, .U, .U, .U, .U, .U] : Dm.Env)) () (ei_r1 (ea_cons ev_int ea_nil)) wkU (tg_name 2) (fun t5 s4 => (sv_seq (e := fun (v_tones_6 : D) => ([.U, .A p (hF c cells), .P t5, .P v_tones_6, .U, .U, .U, .U, .U, .U, .U] : Dm.Env)) (sv_asg (ev_callD (dds := []) hJ rfl (ea_cons (ev_new (el_lst (ea_cons ev_int (ea_cons ev_int (ea_cons ev_int (ea_cons ev_int (ea_cons ev_int ea_nil))))))) ea_nil)) wkU) (fun v_tones_6 => (sv_seq (e := fun (v_most_22 : D) => ([.U, .A p (hF c cells), .P t5, .P v_tones_6, .P v_most_22, .U, .U, .U, .U, .U, .U] : Dm.Env)) (sv_asg (ev_ifE (et_test (ev_op o2_eq (Ev.x (ev_callD (dds := []) hJ rfl (ea_cons ev_int ea_nil))) (Ev.x ev_int))) ev_int ev_int) wkU) (fun v_most_22 => (sv_seq (e := fun (v_within_30 : D) => ([.U, .A p (hF c cells), .P t5, .P v_tones_6, .P v_most_22, .P v_within_30, .U, .U, .U, .U, .U] : Dm.Env)) (sv_asg (ev_callD (dds := []) hJ rfl (ea_cons (ev_var (i := 4) (d := v_most_22) rfl) (ea_cons (ev_var (i := 3) (d := v_tones_6) rfl) ea_nil))) wkU) (fun v_within_30 => (sv_seq (e := fun (s47 : D) => ([.U, .A p (hF c cells), .P t5, .P v_tones_6, .P v_most_22, .P s47, .U, .U, .U, .U, .U] : Dm.Env)) (sv_if (et_and (et_test (ev_op o2_eq (Ev.x (ev_var (i := 4) (d := v_most_22) rfl)) (Ev.x ev_int))) (et_test (ev_op o2_eq (Ev.x (ev_callD (dds := []) hJ rfl (ea_cons ev_int ea_nil))) (Ev.x ev_int)))) wkU (sv_seq (e := fun (v_within_48 : D) => ([.U, .A p (hF c cells), .P t5, .P v_tones_6, .P v_most_22, .P v_within_48, .U, .U, .U, .U, .U] : Dm.Env)) (sv_asg (ev_new (el_lc (ei_r1 (ea_cons ev_int ea_nil)) (fun _ _ => (tg_name 10)) (fun t52 _ _ => et_yes) (fun t52 _ _ => (ev_callD (dds := []) (HandJ.add hJ) rfl (ea_cons (ev_var (i := 3) (d := v_tones_6) rfl) ea_nil))) (hO := (List.forall_mem_cons.2 ⟨rfl, (List.forall_mem_nil _)⟩)))) wkU) (fun v_within_48 => (sv_to (g := fun _ => v_within_48) sv_next (fun _ => (Wk.keep (Wk.keep (Wk.keep (Wk.keep (Wk.keep (Wk.keep (Wk.keep (Wk.keep (Wk.keep (Wk.keep (Wk.keep Wk.nil))))))))))))))) (sv_to (g := fun _ => v_within_30) sv_next (fun _ => (Wk.keep (Wk.keep (Wk.keep (Wk.keep (Wk.keep (Wk.keep (Wk.keep (Wk.keep (Wk.keep (Wk.keep (Wk.keep Wk.nil)))))))))))))) (fun s47 => (sv_seq (e := fun (v_row_here_59 : D) => ([.U, .A p (hF c cells), .P t5, .P v_tones_6, .P v_most_22, .P s47, .P v_row_here_59, .U, .U, .U, .U] : Dm.Env)) (sv_asg (ev_new (el_lc (ei_sq (ev_var (i := 5) (d := s47) rfl)) (fun _ _ => (tg_name 9)) (fun t61 _ _ => (et_test (ev_op o2_eq (Ev.x (ev_callD (dds := []) (HandJ.add hJ) rfl (ea_cons ev_int ea_nil))) (Ev.x ev_int)))) (fun t61 _ _ => (ev_var (i := 9) (d := t61) rfl)) (hO := (List.forall_mem_cons.2 ⟨rfl, (List.forall_mem_nil _)⟩)))) wkU) (fun v_row_here_59 => (sv_seq (e := fun (s78 : D) => ([.U, .A p (hF c cells), .P t5, .P v_tones_6, .P v_most_22, .P s47, .P s78, .U, .U, .U, .U] : Dm.Env)) (sv_if (et_test (ev_op o2_eq (Ev.x (ev_callD (dds := []) hJ rfl (ea_cons ev_int ea_nil))) (Ev.x ev_int))) wkU (sv_seq (e := fun (v_row_here_79 : D) => ([.U, .A p (hF c cells), .P t5, .P v_tones_6, .P v_most_22, .P s47, .P v_row_here_79, .U, .U, .U, .U] : Dm.Env)) (sv_asg (ev_callD (dds := []) hJ rfl (ea_cons (ev_var (i := 6) (d := v_row_here_59) rfl) (ea_cons (ev_var (i := 3) (d := v_tones_6) rfl) (ea_cons ev_int ea_nil)))) wkU) (fun v_row_here_79 => (sv_to (g := fun _ => v_row_here_79) sv_next (fun _ => (Wk.keep (Wk.keep (Wk.keep (Wk.keep (Wk.keep (Wk.keep (Wk.keep (Wk.keep (Wk.keep (Wk.keep (Wk.keep Wk.nil))))))))))))))) (sv_to (g := fun _ => v_row_here_59) sv_next (fun _ => (Wk.keep (Wk.keep (Wk.keep (Wk.keep (Wk.keep (Wk.keep (Wk.keep (Wk.keep (Wk.keep (Wk.keep (Wk.keep Wk.nil)))))))))))))) (fun s78 => (sv_seq (e := fun (s94 : D) => ([.U, .A p (hF c cells), .P t5, .P v_tones_6, .P v_most_22, .P s47, .P s94, .U, .U, .U, .U] : Dm.Env)) (sv_if (et_test (ev_op o2_eq (Ev.x (ev_callD (dds := []) hJ rfl (ea_cons ev_int ea_nil))) (Ev.x ev_int))) wkU (sv_seq (e := fun (v_row_here_95 : D) => ([.U, .A p (hF c cells), .P t5, .P v_tones_6, .P v_most_22, .P s47, .P v_row_here_95, .U, .U, .U, .U] : Dm.Env)) (sv_asg (ev_callD (dds := []) hJ rfl (ea_cons (ev_var (i := 5) (d := s47) rfl) (ea_cons (ev_var (i := 3) (d := v_tones_6) rfl) (ea_cons ev_int ea_nil)))) wkU) (fun v_row_here_95 => (sv_to (g := fun _ => v_row_here_95) sv_next (fun _ => (Wk.keep (Wk.keep (Wk.keep (Wk.keep (Wk.keep (Wk.keep (Wk.keep (Wk.keep (Wk.keep (Wk.keep (Wk.keep Wk.nil))))))))))))))) (sv_to (g := fun _ => s78) sv_next (fun _ => (Wk.keep (Wk.keep (Wk.keep (Wk.keep (Wk.keep (Wk.keep (Wk.keep (Wk.keep (Wk.keep (Wk.keep (Wk.keep Wk.nil)))))))))))))) (fun s94 => (sv_seq (e := fun (v_first_103 : D) => ([.U, .A p (hF c cells), .P t5, .P v_tones_6, .P v_most_22, .P s47, .P s94, .P v_first_103, .U, .U, .U] : Dm.Env)) (sv_asg (ev_callD (dds := []) hJ rfl (ea_cons (ev_new (el_lst (ea_cons ev_non (ea_cons ev_int (ea_cons ev_int (ea_cons (ev_op o2_ix (Ev.x (ev_op o2_add (Ev.x (ev_var (i := 6) (d := s94) rfl)) (Ev.x (ev_new (el_lst (ea_cons ev_int ea_nil)))))) (Ev.x ev_int)) ea_nil)))))) ea_nil)) wkU) (fun v_first_103 => (sv_seq (e := fun (v_kept_125 : D) => ([.U, .A p (hF c cells), .P t5, .P v_tones_6, .P v_most_22, .P s47, .P s94, .P v_first_103, .P v_kept_125, .U, .U] : Dm.Env)) (sv_asg (ev_tup (ea_cons (ev_new (el_list (Ev.x (ev_var (i := 6) (d := s94) rfl)))) (ea_cons (ev_new (el_list (Ev.x (ev_var (i := 5) (d := s47) rfl)))) ea_nil))) wkU) (fun v_kept_125 => (sv_ifF (et_or (et_not (et_tru (Ev.x (ev_call (dds := []) (ea_cons (ev_var (i := 6) (d := s94) rfl) (ea_cons (ev_var (i := 5) (d := s47) rfl) (ea_cons (ev_var (i := 7) (d := v_first_103) rfl) ea_nil))))))) (et_not (et_tru (Ev.x (ev_call (dds := []) (ea_cons (ev_var (i := 5) (d := s47) rfl) (ea_cons (ev_var (i := 6) (d := s94) rfl) (ea_cons (ev_var (i := 7) (d := v_first_103) rfl) ea_nil)))))))) wkU (sv_to (g := Fx.rt) (sv_ret ev_bl wkU) (fun _ => rfl)) (sv_skip (sv_if (et_or (et_not (et_tru (Ev.x (ev_callD (dds := []) hJ rfl (ea_cons (ev_var (i := 6) (d := s94) rfl) (ea_cons (ev_var (i := 5) (d := s47) rfl) ea_nil)))))) (et_or (et_not (et_tru (Ev.x (ev_call (dds := []) (ea_cons (ev_var (i := 6) (d := s94) rfl) (ea_cons (ev_var (i := 5) (d := s47) rfl) (ea_cons (ev_var (i := 7) (d := v_first_103) rfl) ea_nil))))))) (et_test (ev_op o2_ne (Ev.x (ev_tup (ea_cons (ev_var (i := 6) (d := s94) rfl) (ea_cons (ev_var (i := 5) (d := s47) rfl) ea_nil)))) (Ev.x (ev_var (i := 8) (d := v_kept_125) rfl)))))) wkU (sv_to (g := Fl.rt) (sv_ret ev_bl wkU) (fun _ => rfl)) (sv_to (g := fun _ => Fl.nx ()) sv_next (fun _ => (Wk.keep (Wk.keep (Wk.drop (Wk.drop (Wk.drop (Wk.drop (Wk.drop (Wk.drop (Wk.drop (Wk.keep (Wk.keep Wk.nil))))))))))))))))))))))))))))))))))))) (fun s4 => (sv_ret ev_bl wkU)))
end
end G_spreadhues_k19_rows_struck_and_hidden

set_option Elab.async false
set_option linter.all false
set_option maxRecDepth 100000
set_option maxHeartbeats 2000000
namespace G_spreadhues_k19_rows_struck_and_hidden
open PySem PySem.Spec PyProof.Rows L2 Dm
theorem mixed_ok (S : Type) {a t : Int} (h0 : 0 ≤ a) (h1 : a < 2 ^ 31) (t0 : 0 ≤ t) (t1 : t < 1000) : ∃ r, 0 ≤ r ∧ m__law_mixed S [.int a, .int t] = ret (.int r) := by
  obtain ⟨o0, o1⟩ := fmod_in (i := a * 69621 + t * 7907 + 40503) (j := 2147483647) (by decide)
  obtain ⟨w0, w1⟩ := fmod_in (i := (a * 69621 + t * 7907 + 40503).fmod 2147483647 * (a * 69621 + t * 7907 + 40503).fmod 2147483647 + t * 104723 + (a * 69621 + t * 7907 + 40503).fmod 2147483647 / 131) (j := 2147483629) (by decide)
  generalize ho : (a * 69621 + t * 7907 + 40503).fmod 2147483647 = o at *
  generalize hw : (o * o + t * 104723 + o / 131).fmod 2147483629 = w at *
  obtain ⟨z0, z1⟩ := fmod_in (i := w * 48271 + o / 7) (j := 2147483579) (by decide)
  refine ⟨(w * 48271 + o / 7).fmod 2147483579 / 32, by omega, ?_⟩
  unfold m__law_mixed
  funext s
  simp only [bnd_at, go_ok, ret_at, lft_at, oAdd_int, oIntOf_int, mul_small (i := a) (j := 69621) (by omega) (by decide), mul_small (i := t) (j := 7907) (by omega) (by decide), mod_pos (j := 2147483647) (by decide), ho,
    mul_small (i := o) (j := o) (by omega) (by omega), mul_small (i := t) (j := 104723) (by omega) (by decide), div_pos (j := 131) (by decide) (by decide), mod_pos (j := 2147483629) (by decide), hw,
    mul_small (i := w) (j := 48271) (by omega) (by decide), div_pos (j := 7) (by decide) (by decide), mod_pos (j := 2147483579) (by decide), div_pos (j := 32) (by decide) (by decide)]
theorem take_ok {cells : List Int} {n : Int} (hn : 0 < n) (hn' : n < 2 ^ 30) (hc : cells.length ≤ 63) : Tk cells (m__law_take cells [.int n]) (fun d => ∃ k, d = .int k ∧ 0 ≤ k ∧ k < n) := by
  rintro ⟨pos, rest, total⟩ ⟨p0, p1, r0⟩
  dsimp only at p0 p1 r0
  have hnn : n.natAbs < 2 ^ 40 := by omega
  unfold m__law_take
  have late : ∀ p' : Int, 0 ≤ p' → p' ≤ cells.length → ∀ r' : Int, r' = 0 → ∃ a s', (frD (fun s10 : Unit => bnd (bnd (bnd (hget cells 2) fun x35 => bnd (ret (.int 0)) fun x36 => lft (oGt x35 x36)) fun x37 => lft (asB x37)) fun b38 => if b38 = true then bnd (hget cells 2) fun v_rest_39 => bnd (bnd (bnd (bnd (ret v_rest_39) fun x40 => lft (oIntOf x40)) fun x41 => bnd (ret (.int n)) fun x42 => lft (oDiv x41 x42)) fun x43 => hput 2 x43) fun _ => bnd (bnd (ret v_rest_39) fun x44 => lft (oIntOf x44)) fun x45 => bnd (ret (.int n)) fun x46 => lft (oMod x45 x46) else bnd (bnd (bnd (bnd (bnd (hget cells 3) fun x47 => bnd (ret (.int 1)) fun x48 => lft (oAdd x47 x48)) fun x49 => lft (oIntOf x49)) fun x50 => bnd (ret (.int 2147483587)) fun x51 => lft (oMod x50 x51)) fun x52 => hput 3 x52) fun _ => bnd (bnd (bnd (bnd (hget cells 3) fun x55 => bnd (bnd (hget cells 1) fun x53 => bnd (ret []) fun ds54 => ret (x53 :: ds54)) fun ds56 => ret (x55 :: ds56)) fun ds57 => m__law_mixed Hd (ds57 ++ [])) fun x58 => lft (oIntOf x58)) fun x59 => bnd (ret (.int n)) fun x60 => lft (oMod x59 x60)) (.nx ()) (⟨p', r', total⟩ : Hd)) = .ok a s' ∧ Hok cells s' ∧ ∃ k, a = .int k ∧ 0 ≤ k ∧ k < n := by
    intro p' q0 q1 r' hr'
    subst hr'
    obtain ⟨g0, g1⟩ := fmod_in (i := total + 1) (j := 2147483587) (by decide)
    obtain ⟨r, rp, hr⟩ := mixed_ok Hd (a := (total + 1).fmod 2147483587) (t := p') g0 (by omega) q0 (by omega)
    obtain ⟨v0, v1⟩ := fmod_in (i := r) hn
    refine ⟨.int (r.fmod n), ⟨p', 0, (total + 1).fmod 2147483587⟩, ?_, ⟨q0, q1, Int.le_refl _⟩, _, rfl, v0, v1⟩
    have c4 : decide ((0 : Int) < 0) = false := by decide
    simp only [bnd_at, go_ok, ret_at, lft_at, get0_at, get1_at, get2_at, get3_at, put1_at, put2_at, put3_at, oEq_int, asB_bl, oLen_lst, List.length_map, oLt_int, oGt_int, oAdd_int, pow_18, oIntOf_int, mod_pos (j := 2147483647) (by decide), mod_pos (j := 2147483587) (by decide), mod_pos hn, div_pos hn hnn, decide_true, decide_false, ite_t, ite_f, if_true, if_false, Bool.false_eq_true, List.append_nil, frD_rtS, frD_nxS, c4, hr]
  have rest' : ∀ p' : Int, 0 ≤ p' → p' ≤ cells.length → ∀ r' : Int, 0 < r' → ∃ a s', (frD (fun s10 : Unit => bnd (bnd (bnd (hget cells 2) fun x35 => bnd (ret (.int 0)) fun x36 => lft (oGt x35 x36)) fun x37 => lft (asB x37)) fun b38 => if b38 = true then bnd (hget cells 2) fun v_rest_39 => bnd (bnd (bnd (bnd (ret v_rest_39) fun x40 => lft (oIntOf x40)) fun x41 => bnd (ret (.int n)) fun x42 => lft (oDiv x41 x42)) fun x43 => hput 2 x43) fun _ => bnd (bnd (ret v_rest_39) fun x44 => lft (oIntOf x44)) fun x45 => bnd (ret (.int n)) fun x46 => lft (oMod x45 x46) else bnd (bnd (bnd (bnd (bnd (hget cells 3) fun x47 => bnd (ret (.int 1)) fun x48 => lft (oAdd x47 x48)) fun x49 => lft (oIntOf x49)) fun x50 => bnd (ret (.int 2147483587)) fun x51 => lft (oMod x50 x51)) fun x52 => hput 3 x52) fun _ => bnd (bnd (bnd (bnd (hget cells 3) fun x55 => bnd (bnd (hget cells 1) fun x53 => bnd (ret []) fun ds54 => ret (x53 :: ds54)) fun ds56 => ret (x55 :: ds56)) fun ds57 => m__law_mixed Hd (ds57 ++ [])) fun x58 => lft (oIntOf x58)) fun x59 => bnd (ret (.int n)) fun x60 => lft (oMod x59 x60)) (.nx ()) (⟨p', r', total⟩ : Hd)) = .ok a s' ∧ Hok cells s' ∧ ∃ k, a = .int k ∧ 0 ≤ k ∧ k < n := by
    intro p' q0 q1 r' hr'
    obtain ⟨v0, v1⟩ := fmod_in (i := r') hn
    refine ⟨.int (r'.fmod n), ⟨p', r' / n, total⟩, ?_, ⟨q0, q1, Int.ediv_nonneg (by omega) (by omega)⟩, _, rfl, v0, v1⟩
    have c4 : decide ((0 : Int) < r') = true := decide_eq_true hr'
    simp only [bnd_at, go_ok, ret_at, lft_at, get0_at, get1_at, get2_at, get3_at, put1_at, put2_at, put3_at, oEq_int, asB_bl, oLen_lst, List.length_map, oLt_int, oGt_int, oAdd_int, pow_18, oIntOf_int, mod_pos (j := 2147483647) (by decide), mod_pos (j := 2147483587) (by decide), mod_pos hn, div_pos hn hnn, decide_true, decide_false, ite_t, ite_f, if_true, if_false, Bool.false_eq_true, List.append_nil, frD_rtS, frD_nxS, c4]
  by_cases c1 : rest = 0
  · subst c1
    by_cases c2 : pos < cells.length
    · obtain ⟨c, hcx⟩ := atI_map p0 c2
      by_cases c3 : c < 1000000000000000000
      · obtain ⟨g0, g1⟩ := fmod_in (i := c) (j := 2147483647) (by decide)
        obtain ⟨r, rp, hr⟩ := mixed_ok Hd (a := c.fmod 2147483647) (t := pos + 1) g0 (by omega) (by omega) (by omega)
        obtain ⟨v0, v1⟩ := fmod_in (i := r) hn
        refine ⟨.int (r.fmod n), ⟨pos + 1, 0, total⟩, ?_, ⟨by show 0 ≤ pos + 1; omega, by show pos + 1 ≤ _; omega, Int.le_refl _⟩, _, rfl, v0, v1⟩
        simp only [bnd_at, go_ok, ret_at, lft_at, get0_at, get1_at, get2_at, get3_at, put1_at, put2_at, put3_at, oEq_int, asB_bl, oLen_lst, List.length_map, oLt_int, oGt_int, oAdd_int, pow_18, oIntOf_int, mod_pos (j := 2147483647) (by decide), mod_pos (j := 2147483587) (by decide), mod_pos hn, div_pos hn hnn, decide_true, decide_false, ite_t, ite_f, if_true, if_false, Bool.false_eq_true, List.append_nil, frD_rtS, frD_nxS, hcx, decide_eq_true c2, decide_eq_true c3, hr]
      · obtain ⟨a, s', e, h1, h2⟩ := rest' (pos + 1) (by omega) (by omega) c (by omega)
        refine ⟨a, s', ?_, h1, h2⟩
        rw [← e]
        simp only [bnd_at, go_ok, ret_at, lft_at, get0_at, get1_at, get2_at, get3_at, put1_at, put2_at, put3_at, oEq_int, asB_bl, oLen_lst, List.length_map, oLt_int, oGt_int, oAdd_int, pow_18, oIntOf_int, mod_pos (j := 2147483647) (by decide), mod_pos (j := 2147483587) (by decide), mod_pos hn, div_pos hn hnn, decide_true, decide_false, ite_t, ite_f, if_true, if_false, Bool.false_eq_true, List.append_nil, hcx, decide_eq_true c2, decide_eq_false c3]
    · obtain ⟨a, s', e, h1, h2⟩ := late pos p0 p1 0 rfl
      refine ⟨a, s', ?_, h1, h2⟩
      rw [← e]
      simp only [bnd_at, go_ok, ret_at, lft_at, get0_at, get1_at, get2_at, get3_at, put1_at, put2_at, put3_at, oEq_int, asB_bl, oLen_lst, List.length_map, oLt_int, oGt_int, oAdd_int, pow_18, oIntOf_int, mod_pos (j := 2147483647) (by decide), mod_pos (j := 2147483587) (by decide), mod_pos hn, div_pos hn hnn, decide_true, decide_false, ite_t, ite_f, if_true, if_false, Bool.false_eq_true, List.append_nil, decide_eq_false c2]
  · obtain ⟨a, s', e, h1, h2⟩ := rest' pos p0 p1 rest (by omega)
    refine ⟨a, s', ?_, h1, h2⟩
    rw [← e]
    simp only [bnd_at, go_ok, ret_at, lft_at, get0_at, get1_at, get2_at, get3_at, put1_at, put2_at, put3_at, oEq_int, asB_bl, oLen_lst, List.length_map, oLt_int, oGt_int, oAdd_int, pow_18, oIntOf_int, mod_pos (j := 2147483647) (by decide), mod_pos (j := 2147483587) (by decide), mod_pos hn, div_pos hn hnn, decide_true, decide_false, ite_t, ite_f, if_true, if_false, Bool.false_eq_true, List.append_nil, decide_eq_false c1]
end G_spreadhues_k19_rows_struck_and_hidden

set_option Elab.async false
set_option linter.all false
set_option maxRecDepth 100000
set_option maxHeartbeats 2000000
namespace G_spreadhues_k19_rows_struck_and_hidden
open PySem PySem.Spec PyProof.Rows L2 Dm
theorem atI_mem {ds : List D} {p : Int} (h0 : 0 ≤ p) (h1 : p < ds.length) : ∃ d, d ∈ ds ∧ oIx (.lst ds) (.int p) = some d := by
  obtain ⟨k, rfl⟩ := Int.eq_ofNat_of_zero_le h0
  have hk : k < ds.length := by omega
  refine ⟨ds[k], List.getElem_mem hk, ?_⟩
  show atI ds (k : Int) = _
  exact atI_nat (List.getElem?_eq_getElem hk)
theorem pick_ok {cells : List Int} {ds : List D} (hd : ds ≠ []) (hl : ds.length < 1000) (hc : cells.length ≤ 63) : Tk cells (m__law_pick cells [.lst ds]) (fun d => d ∈ ds) := by
  have hp : 0 < ds.length := List.length_pos_iff.mpr hd
  unfold m__law_pick
  simp only [bnd_ret, bnd_bnd, lft_some, oLen_lst, List.append_nil]
  refine tk_bnd (take_ok (by omega) (by omega) hc) fun d hd => ?_
  obtain ⟨k, rfl, k0, k1⟩ := hd
  obtain ⟨x, hx, e⟩ := atI_mem k0 k1
  exact tk_lft e hx
/-- a colour -/
def Cl (d : D) : Prop := ∃ k, d = .int k ∧ 0 ≤ k ∧ k < 100
theorem tone_ok {cells : List Int} {t : Int} (t0 : 0 < t) (t1 : t ≤ 100) (hc : cells.length ≤ 63) : Tk cells (m__law_tone cells [.int t]) Cl := by
  unfold m__law_tone
  simp only [bnd_ret, bnd_bnd, lft_some, List.append_nil]
  refine tk_bnd (take_ok (n := 16) (by decide) (by decide) hc) fun d hd => ?_
  obtain ⟨k, rfl, k0, k1⟩ := hd
  rw [oEq_int, lft_some, bnd_ret, asB_bl, lft_some, bnd_ret]
  by_cases h : k = 0
  · rw [decide_eq_true h, if_pos rfl]
    exact take_ok (by decide) (by decide) hc
  · rw [decide_eq_false h, if_neg Bool.false_ne_true]
    refine tk_mono (take_ok (by omega) (by omega) hc) fun a ⟨k, e, k0, k1⟩ => ⟨k, e, k0, by omega⟩
theorem rg1_ok {n : Int} (h0 : 0 ≤ n) (h1 : n < 1000) : rg1 [.int n] = some (rgD 0 n.toNat) := by
  show (if -(2 ^ 62) ≤ n ∧ n < 2 ^ 62 then some (rgD 0 n.toNat) else none) = _
  exact if_pos (by constructor <;> omega)
theorem mkL_ok {ds : List D} (h : ds.length < 1000000) : mkL ds = some ds := if_pos h
/-- a row of at most n colours -/
def Rw (n : Nat) (d : D) : Prop := ∃ ds, d = .lst ds ∧ ds.length ≤ n ∧ ∀ x ∈ ds, Cl x
theorem row_ok {cells : List Int} {n : Nat} {t : Int} (hn : n ≤ 100) (t0 : 0 < t) (t1 : t ≤ 100) (hc : cells.length ≤ 63) : Tk cells (m__law_row cells [.int (n : Int), .int t]) (Rw n) := by
  unfold m__law_row
  simp only [bnd_ret, bnd_bnd, lft_some, List.append_nil, oAdd_int]
  refine tk_bnd (take_ok (by omega) (by omega) hc) fun d hd => ?_
  obtain ⟨k, rfl, k0, k1⟩ := hd
  rw [rg1_ok k0 (by omega), lft_some, bnd_ret, mkL_ok (by rw [rgD_len]; omega), lft_some, bnd_ret]
  refine tk_bnd (tk_lcAll (P := Cl) fun d hd => ⟨d, rfl, tone_ok t0 t1 hc⟩) fun ys hy => tk_ret ⟨ys, rfl, ?_, hy.2⟩
  rw [hy.1, rgD_len]
  omega
end G_spreadhues_k19_rows_struck_and_hidden

set_option Elab.async false
set_option linter.all false
set_option maxRecDepth 100000
set_option maxHeartbeats 2000000
namespace G_spreadhues_k19_rows_struck_and_hidden
open PySem PySem.Spec PyProof.Rows L2 Dm
/-- no object -/
def Pl : D → Prop
  | .obj _ _ => False
  | _ => True
def isCol : D → Bool
  | .int k => decide (0 ≤ k) && decide (k ≤ 99)
  | _ => false
theorem colour_ok (S : Type) {d : D} (h : Pl d) : m_is_colour S [d] = ret (.bl (isCol d)) := by
  unfold m_is_colour m_is_whole
  simp only [bnd_ret, bnd_bnd, lft_some, List.append_nil]
  cases d with
  | obj c fs => exact h.elim
  | int k =>
    have e1 : oIsA .int (.int k) = some (.bl true) := rfl
    have e2 : oIsA .bool (.int k) = some (.bl false) := rfl
    have e3 : oNis (.int 0) .non = some (.bl true) := rfl
    have e4 : oIs (.int 99) .non = some (.bl false) := rfl
    simp only [e1, e2, e3, e4, lft_some, bnd_ret, tru_bl, asB_bl, Bool.not_true, Bool.false_eq_true, if_false, if_true, oLt_int, oLe_int]
    have e5 : isCol (.int k) = (decide (0 ≤ k) && decide (k ≤ 99)) := rfl
    rw [e5]
    by_cases c : k < 0
    · rw [decide_eq_true c, if_pos rfl, decide_eq_false (by omega : ¬ 0 ≤ k)]
      rfl
    · rw [decide_eq_false c, if_neg Bool.false_ne_true, decide_eq_true (by omega : 0 ≤ k)]
      rfl
  | bl b =>
    have e1 : oIsA .int (.bl b) = some (.bl true) := rfl
    have e2 : oIsA .bool (.bl b) = some (.bl true) := rfl
    simp only [e1, e2, lft_some, bnd_ret, tru_bl, Bool.not_true, Bool.false_eq_true, if_false, if_true]
    rfl
  | non => rfl
  | str x => rfl
  | lst ds => rfl
  | tup ds => rfl
  | dct kvs => rfl
theorem seq_ok (S : Type) {d : D} {ds : List D} (h : items d = some ds) : m_is_sequence S [d] = ret (.bl true) := by
  cases d <;> first | rfl | cases h
/-- the first item that is no colour -/
def badAt : Nat → List D → Option Nat
  | _, [] => none
  | n, d :: ds => if isCol d = true then badAt (n + 1) ds else some n
def opt : Option Nat → D
  | none => .non
  | some n => .int (n : Int)
theorem wrong_loop (S : Type) (f : D × D → Unit → MS S (Fl Unit Unit)) (hf : ∀ n d, Pl d → f (.int (n : Nat), d) () = if isCol d = true then ret (Fl.nx ()) else ret (Fl.rt (.int (n : Nat)))) : ∀ (ds : List D) (n : Nat), (∀ d ∈ ds, Pl d) →
    forF un2 f (numb n ds) () = ret (match badAt n ds with | none => Fr.nx () | some k => Fr.rt (.int (k : Nat)))
  | [], n, _ => rfl
  | d :: ds, n, h => by
    show bnd (lft (un2 (.tup [.int (n : Int), d]))) (fun t => bnd (f t ()) _) = _
    have e : un2 (.tup [.int (n : Int), d]) = some (.int (n : Int), d) := rfl
    rw [e, lft_some, bnd_ret, hf n d (h d (by simp))]
    unfold badAt
    by_cases c : isCol d = true
    · rw [if_pos c, if_pos c, bnd_ret]
      exact wrong_loop S f hf ds (n + 1) fun d hd => h d (by simp [hd])
    · rw [if_neg c, if_neg c, bnd_ret]
theorem wrong_ok (S : Type) {d : D} {ds : List D} (hd : items d = some ds) (h : ∀ x ∈ ds, Pl x) : m_wrong_colour S [d] = ret (opt (badAt 0 ds)) := by
  unfold m_wrong_colour
  dsimp only
  rw [bnd_ret, hd, Option.map_some, lft_some, bnd_ret, wrong_loop S _ (fun n d hd => ?_) ds 0 h, bnd_ret]
  · cases badAt 0 ds <;> rfl
  · simp only [bnd_ret, bnd_bnd, lft_some, List.append_nil, colour_ok S hd, tru_bl]
    cases isCol d <;> rfl
theorem badAt_none : ∀ {ds : List D} {n : Nat}, (∀ d ∈ ds, isCol d = true) → badAt n ds = none
  | [], _, _ => rfl
  | d :: ds, n, h => by
    unfold badAt
    rw [if_pos (h d (by simp))]
    exact badAt_none fun d hd => h d (by simp [hd])
theorem tuple_ok {d : D} {ds : List D} (hd : items d = some ds) : oTuple d = some (.tup ds) := by
  unfold oTuple
  rw [hd]
  rfl
theorem len_ok {d : D} {ds : List D} (hd : items d = some ds) : oLen d = some (.int ds.length) := by
  cases d <;> first | (cases hd; rfl) | cases hd
/-- check_row of a row of colours -/
theorem check_ok (S : Type) {d : D} {ds : List D} (hd : items d = some ds) (hl : ds.length ≤ 40) (h : ∀ x ∈ ds, isCol x = true) (hp : ∀ x ∈ ds, Pl x) : m_check_row S [d, .int 40] = ret (.tup ds) := by
  unfold m_check_row
  simp only [bnd_ret, bnd_bnd, lft_some, List.append_nil, seq_ok S hd, tru_bl, Bool.not_true, Bool.false_eq_true, if_false, len_ok hd, oGt_int, asB_bl, decide_eq_false (by omega : ¬ (40 : Int) < (ds.length : Int)), wrong_ok S hd hp, badAt_none h, tuple_ok hd]
  rfl
end G_spreadhues_k19_rows_struck_and_hidden

set_option Elab.async false
set_option linter.all false
set_option maxRecDepth 100000
set_option maxHeartbeats 2000000
namespace Dm
theorem lcM_retI {S τ ι : Type} {un : D → Option τ} {c : τ → MS S Bool} {f : τ → MS S D} {e : ι → τ} {p : ι → Bool} {g : ι → D} : ∀ {ts : List ι} {ds : List D}, ds.map un = ts.map (fun t => some (e t)) → (∀ t ∈ ts, c (e t) = ret (p t)) → (∀ t ∈ ts, p t = true → f (e t) = ret (g t)) → lcM un c f ds = ret ((ts.filter p).map g)
  | [], [], _, _, _ => rfl
  | [], d :: ds, e, _, _ => by cases e
  | t :: ts, [], e, _, _ => by cases e
  | t :: ts, d :: ds, h, hc, hf => by
    rw [List.map_cons, List.map_cons] at h
    have e1 : un d = some (e t) := (List.cons.inj h).1
    have ih := lcM_retI (c := c) (f := f) (e := e) (p := p) (g := g) (List.cons.inj h).2 (fun t ht => hc t (by simp [ht])) (fun t ht => hf t (by simp [ht]))
    show (bnd (lft (un d)) fun t => bnd (nex (c t)) fun b => if b = true then bnd (nex (f t)) fun y => bnd (lcM un c f ds) fun ys => ret (y :: ys) else lcM un c f ds) = _
    rw [e1, lft_some, bnd_ret, hc t (by simp), nex_ret, bnd_ret, ih]
    cases hp : p t with
    | false => rw [if_neg Bool.false_ne_true, List.filter_cons_of_neg (by rw [hp]; exact Bool.false_ne_true)]
    | true =>
      rw [if_pos rfl, hf t (by simp) hp, nex_ret, bnd_ret, bnd_ret, List.filter_cons_of_pos hp]
      rfl
/-- items with their places -/
def idx : Nat → List Int → List (Nat × Int)
  | _, [] => []
  | n, c :: r => (n, c) :: idx (n + 1) r
theorem idx_len : ∀ (n : Nat) (r : List Int), (idx n r).length = r.length
  | _, [] => rfl
  | n, _ :: r => congrArg Nat.succ (idx_len (n + 1) r)
theorem idx_at {cs : List Int} : ∀ (r pre : List Int), cs = pre ++ r → ∀ t ∈ idx pre.length r, cs[t.1]? = some t.2
  | [], _, _, t, h => nomatch h
  | c :: r, pre, e, t, h => by
    rcases List.mem_cons.mp h with h | h
    · subst h
      rw [e]
      simp
    · refine idx_at r (pre ++ [c]) (by rw [e, List.append_assoc]; rfl) t ?_
      rw [List.length_append]
      exact h
/-- struck: what differs from the one before it -/
def dd : Option Int → List Int → List Int
  | _, [] => []
  | none, c :: r => c :: dd (some c) r
  | some p, c :: r => if c = p then dd (some c) r else c :: dd (some c) r
/-- is the item at t.1 kept -/
def keepAt (cs : List Int) (t : Nat × Int) : Bool := t.1 == 0 || !(decide (cs[t.1 - 1]? = some t.2))
theorem kept {cs : List Int} : ∀ (r pre : List Int), cs = pre ++ r → ((idx pre.length r).filter (keepAt cs)).map Prod.snd = dd pre.getLast? r
  | [], _, _ => rfl
  | c :: r, pre, e => by
    have ih := kept (cs := cs) r (pre ++ [c]) (by rw [e, List.append_assoc]; rfl)
    rw [List.length_append, List.getLast?_append] at ih
    have ih : ((idx (pre.length + 1) r).filter (keepAt cs)).map Prod.snd = dd (some c) r := ih
    show (((pre.length, c) :: idx (pre.length + 1) r).filter (keepAt cs)).map Prod.snd = _
    cases hp : pre.getLast? with
    | none =>
      have e0 : pre = [] := List.getLast?_eq_none_iff.mp hp
      rw [List.filter_cons_of_pos (by rw [e0]; rfl), List.map_cons, ih]
      rfl
    | some p =>
      have e1 : cs[pre.length - 1]? = some p := by
        rw [e, List.getElem?_append_left (by
          cases pre with
          | nil => cases hp
          | cons a l => simp), ← List.getLast?_eq_getElem?]
        exact hp
      have l0 : (pre.length == 0) = false := by
        cases pre with
        | nil => cases hp
        | cons a l => rfl
      have ek : keepAt cs (pre.length, c) = !decide (p = c) := by
        show (pre.length == 0 || !(decide (cs[pre.length - 1]? = some c))) = _
        rw [l0, e1, Bool.false_or]
        simp
      show _ = if c = p then dd (some c) r else c :: dd (some c) r
      by_cases q : c = p
      · rw [if_pos q, List.filter_cons_of_neg (by rw [ek]; simp [q]), ih]
      · rw [if_neg q, List.filter_cons_of_pos (by rw [ek]; simp [Ne.symm q]), List.map_cons, ih]
theorem dd_idem : ∀ (o : Option Int) (r : List Int), dd o (dd o r) = dd o r
  | none, [] => rfl
  | some _, [] => rfl
  | none, c :: r => by
    show c :: dd (some c) (dd (some c) r) = _
    rw [dd_idem (some c) r]
    rfl
  | some p, c :: r => by
    show dd (some p) (if c = p then dd (some c) r else c :: dd (some c) r) = if c = p then dd (some c) r else c :: dd (some c) r
    by_cases q : c = p
    · rw [if_pos q, ← q, dd_idem (some c) r]
    · rw [if_neg q]
      show (if c = p then _ else c :: dd (some c) (dd (some c) r)) = _
      rw [if_neg q, dd_idem (some c) r]
theorem numb_un2 : ∀ (n : Nat) (r : List Int), (numb n (r.map D.int)).map un2 = (idx n r).map fun t => some (D.int (t.1 : Int), D.int t.2)
  | _, [] => rfl
  | n, c :: r => by
    show some (D.int (n : Int), D.int c) :: (numb (n + 1) (r.map D.int)).map un2 = _
    rw [numb_un2 (n + 1) r]
    rfl
theorem rg_idx : ∀ (r : List Int) (n : Nat), (List.range' n r.length).map (fun (i : Nat) => D.int (i : Int)) = (idx n r).map fun t => D.int (t.1 : Int)
  | [], _ => rfl
  | c :: r, n => by
    rw [List.length_cons, List.range'_succ, List.map_cons, rg_idx r (n + 1)]
    rfl
theorem rgD_idx (cs : List Int) : rgD 0 cs.length = (idx 0 cs).map fun t => D.int (t.1 : Int) := by
  rw [← rg_idx cs 0, ← List.range_eq_range']
  unfold rgD
  refine List.map_congr_left fun i _ => ?_
  rw [Int.zero_add]
theorem ix_ok {d : D} {cs : List Int} {i : Nat} {c : Int} (hd : items d = some (cs.map D.int)) (h : cs[i]? = some c) : oIx d (.int (i : Int)) = some (.int c) := by
  have e : (cs.map D.int)[i]? = some (.int c) := by rw [List.getElem?_map, h]; rfl
  cases d with
  | lst ds =>
    cases hd
    exact L2.atI_nat e
  | tup ds =>
    cases hd
    exact L2.atI_nat e
  | _ => cases hd
theorem keep_pos {cs : List Int} {t : Nat × Int} {p : Int} (h0 : t.1 ≠ 0) (h : cs[t.1 - 1]? = some p) : keepAt cs t = !decide (p = t.2) := by
  unfold keepAt
  rw [h]
  have : (t.1 == 0) = false := by simpa using h0
  rw [this, Bool.false_or]
  simp
end Dm
namespace G_spreadhues_k19_rows_struck_and_hidden
open PySem PySem.Spec PyProof.Rows L2 Dm
theorem keep_m (S : Type) {d : D} {cs : List Int} (hd : items d = some (cs.map D.int)) {t : Nat × Int} (ht : cs[t.1]? = some t.2) :
    (if decide ((t.1 : Int) = 0) = true then (ret true : MS S Bool) else bnd (lft (oIx d (.int ((t.1 : Int) - 1)))) fun x7 => bnd (lft (oNe x7 (.int t.2))) fun x9 => lft (asB x9)) = ret (keepAt cs t) := by
  by_cases h : t.1 = 0
  · rw [if_pos (by simp [h])]
    unfold keepAt
    rw [h]
    rfl
  · rw [if_neg (by simp; omega)]
    have hl : t.1 < cs.length := (List.getElem?_eq_some_iff.mp ht).1
    have hp : cs[t.1 - 1]? = some cs[t.1 - 1] := List.getElem?_eq_getElem (by omega)
    have e : ((t.1 : Int) - 1) = ((t.1 - 1 : Nat) : Int) := by omega
    rw [e, ix_ok hd hp, lft_some, bnd_ret, oNe_int, lft_some, bnd_ret, asB_bl, lft_some, keep_pos h hp]
theorem strike_ok (S : Type) {d : D} {cs : List Int} (hd : items d = some (cs.map D.int)) (hl : cs.length < 1000) : m_strike S [d] = ret (.tup ((dd none cs).map D.int)) := by
  unfold m_strike
  dsimp only
  rw [bnd_ret, hd, Option.map_some, lft_some, bnd_ret, mkL_ok (by rw [numb_len, List.length_map]; omega), lft_some, bnd_ret]
  rw [lcM_retI (e := fun t => (D.int (t.1 : Int), D.int t.2)) (p := keepAt cs) (g := fun t => D.int t.2) (numb_un2 0 cs) (fun t ht => ?_) (fun t ht _ => rfl), bnd_ret, bnd_ret]
  · have e : ((idx 0 cs).filter (keepAt cs)).map Prod.snd = dd none cs := kept (cs := cs) cs [] rfl
    have e2 : ((idx 0 cs).filter (keepAt cs)).map (fun t => D.int t.2) = (dd none cs).map D.int := by
      rw [← e, List.map_map]
      rfl
    rw [e2]
    rfl
  · simp only [bnd_ret, bnd_bnd, lft_some, oEq_int, asB_bl, oSub_int]
    exact keep_m S hd (idx_at cs [] rfl t ht)
theorem struck_ok (S : Type) {d : D} {cs : List Int} (hd : items d = some (cs.map D.int)) (hl : cs.length < 1000) : m__law_struck S [d] = ret (.lst ((dd none cs).map D.int)) := by
  unfold m__law_struck
  dsimp only
  rw [bnd_ret, len_ok hd, lft_some, bnd_ret, bnd_ret, bnd_ret, List.length_map, rg1_ok (by omega) (by omega), lft_some, bnd_ret, Int.toNat_natCast, mkL_ok (by rw [rgD_len]; omega), lft_some, bnd_ret]
  rw [lcM_retI (e := fun t => D.int (t.1 : Int)) (p := keepAt cs) (g := fun t => D.int t.2) (ts := idx 0 cs) (by rw [rgD_idx, List.map_map]; rfl) (fun t ht => ?_) (fun t ht _ => ?_), bnd_ret]
  · have e : ((idx 0 cs).filter (keepAt cs)).map Prod.snd = dd none cs := kept (cs := cs) cs [] rfl
    have e2 : ((idx 0 cs).filter (keepAt cs)).map (fun t => D.int t.2) = (dd none cs).map D.int := by
      rw [← e, List.map_map]
      rfl
    rw [e2]
  · simp only [bnd_ret, bnd_bnd, lft_some, oEq_int, asB_bl, oSub_int, ix_ok hd (idx_at cs [] rfl t ht)]
    have q := keep_m S hd (idx_at cs [] rfl t ht)
    rw [← q]
    by_cases h : t.1 = 0
    · rw [if_pos (by simp [h]), if_pos (by simp [h])]
    · have hl : t.1 < cs.length := (List.getElem?_eq_some_iff.mp (idx_at cs [] rfl t ht)).1
      have hp : cs[t.1 - 1]? = some cs[t.1 - 1] := List.getElem?_eq_getElem (by omega)
      have e : ((t.1 : Int) - 1) = ((t.1 - 1 : Nat) : Int) := by omega
      rw [e, ix_ok hd hp]
      simp only [lft_some, bnd_ret, oNe_int, asB_bl]
      have c : (decide (t.2 = cs[t.1 - 1])) = decide (cs[t.1 - 1] = t.2) := by
        by_cases z : t.2 = cs[t.1 - 1]
        · rw [decide_eq_true z, decide_eq_true z.symm]
        · rw [decide_eq_false z, decide_eq_false (Ne.symm z)]
      rw [c]
  · rw [bnd_ret, bnd_ret, ix_ok hd (idx_at cs [] rfl t ht)]
    rfl
end G_spreadhues_k19_rows_struck_and_hidden

set_option Elab.async false
set_option linter.all false
set_option maxRecDepth 100000
set_option maxHeartbeats 2000000
namespace Dm
/-- the earliest places of the row in w, whose first item has the place n -/
def gp : Nat → List Int → List Int → Option (List Nat)
  | _, [], _ => some []
  | _, _ :: _, [] => none
  | n, t :: ts, c :: w => if c = t then (gp (n + 1) ts w).map (n :: ·) else gp (n + 1) (t :: ts) w
/-- the program's walk -/
def fp (row : List Int) : Nat → List Int → List Nat → List Nat
  | _, [], acc => acc
  | n, c :: w, acc => if row[acc.length]? = some c then fp row (n + 1) w (acc ++ [n]) else fp row (n + 1) w acc
theorem fp_gp (row : List Int) : ∀ (w : List Int) (n : Nat) (acc : List Nat), acc.length ≤ row.length → (match gp n (row.drop acc.length) w with | some g => fp row n w acc = acc ++ g ∧ g.length + acc.length = row.length | none => (fp row n w acc).length < row.length)
  | [], n, acc, h => by
    by_cases e : acc.length = row.length
    · rw [List.drop_eq_nil_of_le (by omega)]
      exact ⟨(List.append_nil _).symm, by simpa using e⟩
    · obtain ⟨a, l, e2⟩ : ∃ a l, row.drop acc.length = a :: l := by
        cases q : row.drop acc.length with
        | nil =>
          have := List.drop_eq_nil_iff.mp q
          omega
        | cons a l => exact ⟨a, l, rfl⟩
      rw [e2]
      show acc.length < row.length
      omega
  | c :: w, n, acc, h => by
    by_cases e : acc.length = row.length
    · have ih := fp_gp row w (n + 1) acc h
      rw [List.drop_eq_nil_of_le (by omega)] at ih ⊢
      have e1 : row[acc.length]? = none := List.getElem?_eq_none (by omega)
      have e2 : fp row n (c :: w) acc = fp row (n + 1) w acc := by
        show (if row[acc.length]? = some c then _ else _) = _
        rw [e1, if_neg (by intro q; cases q)]
      rw [e2]
      cases w <;> exact ih
    · have hl : acc.length < row.length := by omega
      have e2 : row.drop acc.length = row[acc.length] :: row.drop (acc.length + 1) := List.drop_eq_getElem_cons hl
      have e1 : row[acc.length]? = some row[acc.length] := List.getElem?_eq_getElem hl
      rw [e2]
      by_cases q : c = row[acc.length]
      · have ih := fp_gp row w (n + 1) (acc ++ [n]) (by rw [List.length_append]; exact hl)
        have e3 : fp row n (c :: w) acc = fp row (n + 1) w (acc ++ [n]) := by
          show (if row[acc.length]? = some c then _ else _) = _
          rw [e1, if_pos (by rw [q])]
        rw [List.length_append, List.length_singleton] at ih
        rw [e3]
        show match (if c = row[acc.length] then (gp (n + 1) (row.drop (acc.length + 1)) w).map (n :: ·) else _) with | some g => _ | none => _
        rw [if_pos q]
        cases hg : gp (n + 1) (row.drop (acc.length + 1)) w with
        | none =>
          rw [hg] at ih
          exact ih
        | some g =>
          rw [hg] at ih
          refine ⟨by rw [ih.1, List.append_assoc]; rfl, ?_⟩
          have := ih.2
          show (n :: g).length + acc.length = _
          rw [List.length_cons]
          omega
      · have ih := fp_gp row w (n + 1) acc h
        rw [e2] at ih
        have e3 : fp row n (c :: w) acc = fp row (n + 1) w acc := by
          show (if row[acc.length]? = some c then _ else _) = _
          rw [e1, if_neg (by intro z; exact q (Option.some.inj z).symm)]
        rw [e3]
        show match (if c = row[acc.length] then _ else gp (n + 1) (row[acc.length] :: row.drop (acc.length + 1)) w) with | some g => _ | none => _
        rw [if_neg q]
        exact ih
def optL : Option (List Nat) → D
  | none => .non
  | some g => .tup (g.map fun (n : Nat) => .int (n : Int))
end Dm
namespace G_spreadhues_k19_rows_struck_and_hidden
open PySem PySem.Spec PyProof.Rows L2 Dm
theorem fp_loop (S : Type) (row : List Int) (f : D × D → List D → MS S (List D))
    (hf : ∀ (n : Nat) (c : Int) (acc : List Nat), acc.length < 1000 → f (.int (n : Int), .int c) (acc.map fun (n : Nat) => D.int (n : Int)) = ret ((if row[acc.length]? = some c then acc ++ [n] else acc).map fun (n : Nat) => D.int (n : Int))) :
    ∀ (w : List Int) (n : Nat) (acc : List Nat), acc.length + w.length < 1000 → forN un2 f (numb n (w.map D.int)) (acc.map fun (n : Nat) => D.int (n : Int)) = ret ((fp row n w acc).map fun (n : Nat) => D.int (n : Int))
  | [], n, acc, _ => rfl
  | c :: w, n, acc, h => by
    rw [List.length_cons] at h
    show bnd (lft (un2 (.tup [.int (n : Int), .int c]))) (fun t => bnd (f t _) _) = _
    have e : un2 (.tup [.int (n : Int), .int c]) = some (.int (n : Int), .int c) := rfl
    rw [e, lft_some, bnd_ret, hf n c acc (by omega), bnd_ret]
    unfold fp
    by_cases q : row[acc.length]? = some c
    · rw [if_pos q, if_pos q]
      exact fp_loop S row f hf w (n + 1) (acc ++ [n]) (by rw [List.length_append, List.length_singleton]; omega)
    · rw [if_neg q, if_neg q]
      exact fp_loop S row f hf w (n + 1) acc (by omega)
theorem find_ok (S : Type) {d e : D} {row w : List Int} (hd : items d = some (row.map D.int)) (he : items e = some (w.map D.int)) (hl : row.length < 400) (hw : w.length < 400) : m_find_places S [d, e] = ret (optL (gp 0 row w)) := by
  unfold m_find_places
  dsimp only
  rw [bnd_ret, mkL_ok (by decide), lft_some, bnd_ret, bnd_ret, he, Option.map_some, lft_some, bnd_ret]
  rw [show ([] : List D) = (([] : List Nat).map fun (n : Nat) => D.int (n : Int)) from rfl, fp_loop S row _ (fun n c acc ha => ?_) w 0 [] (by rw [List.length_nil]; omega), bnd_ret]
  · have q := fp_gp row w 0 [] (Nat.zero_le _)
    rw [List.length_nil, List.drop_zero] at q
    simp only [bnd_ret, bnd_bnd, lft_some, oLen_lst, len_ok hd, List.length_map, oEq_int, asB_bl]
    cases hg : gp 0 row w with
    | none =>
      rw [hg] at q
      rw [decide_eq_false (by have : (fp row 0 w []).length < row.length := q; omega), if_neg Bool.false_ne_true]
      rfl
    | some g =>
      rw [hg] at q
      obtain ⟨q1, q2⟩ : fp row 0 w [] = [] ++ g ∧ g.length + 0 = row.length := q
      rw [q1, List.nil_append, decide_eq_true (by omega), if_pos rfl]
      rfl
  · simp only [bnd_ret, bnd_bnd, lft_some, oLen_lst, len_ok hd, List.length_map, oLt_int, asB_bl]
    by_cases h : acc.length < row.length
    · have hx := ix_ok hd (List.getElem?_eq_getElem h)
      simp only [decide_eq_true (by omega : (acc.length : Int) < (row.length : Int)), if_true, hx, lft_some, bnd_ret, oEq_int, asB_bl]
      rw [List.getElem?_eq_getElem h]
      by_cases z : row[acc.length] = c
      · rw [decide_eq_true z, if_pos rfl, if_pos (by rw [z])]
        have ha' : app1 (acc.map fun (n : Nat) => D.int (n : Int)) (.int (n : Int)) = some ((acc ++ [n]).map fun (n : Nat) => D.int (n : Int)) := by
          unfold app1
          rw [if_pos (by rw [List.length_map]; unfold tooLong; omega), List.map_append]
          rfl
        rw [ha', lft_some, bnd_ret]
      · rw [decide_eq_false z, if_neg Bool.false_ne_true, if_neg (by intro y; exact z (Option.some.inj y))]
    · simp only [decide_eq_false (by omega : ¬ (acc.length : Int) < (row.length : Int)), Bool.false_eq_true, if_false, bnd_ret]
      rw [List.getElem?_eq_none (by omega), if_neg (by intro y; cases y)]
end G_spreadhues_k19_rows_struck_and_hidden

set_option Elab.async false
set_option linter.all false
set_option maxRecDepth 100000
set_option maxHeartbeats 2000000
namespace Dm
open PySem PySem.Spec PyProof.Rows L2
theorem toPys_ints : ∀ cs : List Int, toPys (cs.map D.int) = some (cs.map PyData.int)
  | [] => rfl
  | c :: cs => by
    rw [List.map_cons]
    unfold toPys
    rw [toPys_ints cs]
    rfl
theorem lay_ints : ∀ cs : List Int, PyData.canLayAll0 (cs.map PyData.int) = true
  | [] => by simp [PyData.canLayAll0]
  | c :: cs => by simp [PyData.canLayAll0, PyData.canLay0, lay_ints cs]
theorem depth_ints : ∀ cs : List Int, PyData.depthAll (cs.map PyData.int) = 0
  | [] => by simp [PyData.depthAll]
  | c :: cs => by simp [PyData.depthAll, PyData.depth, depth_ints cs]
theorem eqv_ints : ∀ cs ds : List Int, PyData.eqvAll (cs.map PyData.int) (ds.map PyData.int) = decide (cs = ds)
  | [], [] => by simp [PyData.eqvAll]
  | [], d :: ds => by simp [PyData.eqvAll]
  | c :: cs, [] => by simp [PyData.eqvAll]
  | c :: cs, d :: ds => by
    simp only [List.map_cons, PyData.eqvAll, PyData.eqv, eqv_ints cs ds]
    by_cases h : c = d
    · subst h
      simp
    · simp [h]
theorem eqD_lst (cs ds : List Int) : eqD (.lst (cs.map D.int)) (.lst (ds.map D.int)) = some (decide (cs = ds)) := by
  unfold eqD toPy
  rw [toPys_ints, toPys_ints]
  simp [SeqAt.shaped, PyData.canLay0, PyData.depth, lay_ints, depth_ints, PyData.eqv, eqv_ints]
theorem eqD_tup (cs ds : List Int) : eqD (.tup (cs.map D.int)) (.tup (ds.map D.int)) = some (decide (cs = ds)) := by
  unfold eqD toPy
  rw [toPys_ints, toPys_ints]
  simp [SeqAt.shaped, PyData.canLay0, PyData.depth, lay_ints, depth_ints, PyData.eqv, eqv_ints]
/-- the first place of t in w -/
def fst? : Nat → Int → List Int → Option Nat
  | _, _, [] => none
  | n, t, c :: w => if c = t then some n else fst? (n + 1) t w
theorem fst_head : ∀ (w : List Int) (n : Nat) (t : Int), (((idx n w).filter fun x => decide (x.2 = t)).map Prod.fst).head? = fst? n t w
  | [], _, _ => rfl
  | c :: w, n, t => by
    show ((((n, c) :: idx (n + 1) w).filter fun x => decide (x.2 = t)).map Prod.fst).head? = (if c = t then some n else fst? (n + 1) t w)
    by_cases h : c = t
    · rw [if_pos h, List.filter_cons_of_pos (by simp [h])]
      rfl
    · rw [if_neg h, List.filter_cons_of_neg (by simp [h])]
      exact fst_head w (n + 1) t
theorem gp_fst : ∀ (w : List Int) (n : Nat) (t : Int) (ts : List Int), gp n (t :: ts) w = match fst? n t w with | none => none | some k => (gp (k + 1) ts (w.drop (k + 1 - n))).map (k :: ·)
  | [], _, _, _ => rfl
  | c :: w, n, t, ts => by
    show (if c = t then (gp (n + 1) ts w).map (n :: ·) else gp (n + 1) (t :: ts) w) = match (if c = t then some n else fst? (n + 1) t w) with | none => none | some k => _
    by_cases h : c = t
    · rw [if_pos h, if_pos h]
      show _ = (gp (n + 1) ts ((c :: w).drop (n + 1 - n))).map (n :: ·)
      rw [show n + 1 - n = 1 by omega]
      rfl
    · rw [if_neg h, if_neg h, gp_fst w (n + 1) t ts]
      cases q : fst? (n + 1) t w with
      | none => rfl
      | some k =>
        have hk : n + 1 ≤ k := by
          clear gp_fst
          have go : ∀ (w : List Int) (n k : Nat), fst? n t w = some k → n ≤ k := by
            intro w
            induction w with
            | nil => intro n k z; cases z
            | cons c w ih =>
              intro n k z
              unfold fst? at z
              by_cases y : c = t
              · rw [if_pos y] at z
                cases z
                exact Nat.le_refl _
              · rw [if_neg y] at z
                exact Nat.le_of_succ_le (ih (n + 1) k z)
          exact go w (n + 1) k q
        show (gp (k + 1) ts (w.drop (k + 1 - (n + 1)))).map (k :: ·) = (gp (k + 1) ts ((c :: w).drop (k + 1 - n))).map (k :: ·)
        rw [show k + 1 - n = (k + 1 - (n + 1)) + 1 by omega, List.drop_succ_cons]
end Dm

set_option Elab.async false
set_option linter.all false
set_option maxRecDepth 100000
set_option maxHeartbeats 2000000
namespace G_spreadhues_k19_rows_struck_and_hidden
open PySem PySem.Spec PyProof.Rows L2 Dm
theorem forF_nx {S α τ : Type} {un : D → Option τ} {f : τ → α → MS S (Fl α α)} {d : D} {ds : List D} {t : τ} {a b : α} (hu : un d = some t) (h : f t a = ret (.nx b)) : forF un f (d :: ds) a = forF un f ds b := by
  conv => lhs; unfold forF
  rw [hu, lft_some, bnd_ret, h, bnd_ret]
theorem forF_rt {S α τ : Type} {un : D → Option τ} {f : τ → α → MS S (Fl α α)} {d e : D} {ds : List D} {t : τ} {a : α} (hu : un d = some t) (h : f t a = ret (.rt e)) : forF un f (d :: ds) a = ret (.rt e) := by
  conv => lhs; unfold forF
  rw [hu, lft_some, bnd_ret, h, bnd_ret]
def nats (g : List Nat) : List D := g.map fun (n : Nat) => .int (n : Int)
theorem lp_loop (S : Type) (w : List Int) (f : D → List D × D → MS S (Fl (List D × D) (List D × D)))
    (hf : ∀ (t : Int) (b : Nat) (acc : List Nat), b ≤ w.length → acc.length < 1000 → f (.int t) (nats acc, .int (b : Int)) = match fst? b t (w.drop b) with | none => ret (Fl.rt .non) | some k => ret (Fl.nx (nats (acc ++ [k]), .int ((k + 1 : Nat) : Int)))) :
    ∀ (ts : List Int) (b : Nat) (acc : List Nat), b ≤ w.length → acc.length + ts.length < 1000 → match gp b ts (w.drop b) with
      | none => forF un1 f (ts.map D.int) (nats acc, .int (b : Int)) = ret (Fr.rt .non)
      | some g => ∃ z, forF un1 f (ts.map D.int) (nats acc, .int (b : Int)) = ret (Fr.nx (nats (acc ++ g), z))
  | [], b, acc, hb, _ => by
    have e : gp b [] (w.drop b) = some [] := by cases w.drop b <;> rfl
    rw [e]
    exact ⟨_, by rw [List.append_nil]; rfl⟩
  | t :: ts, b, acc, hb, hl => by
    rw [List.length_cons] at hl
    rw [gp_fst]
    have h1 := hf t b acc hb (by omega)
    cases q : fst? b t (w.drop b) with
    | none =>
      rw [q] at h1
      exact forF_rt rfl h1
    | some k =>
      rw [q] at h1
      rw [List.map_cons, forF_nx (un := un1) (t := .int t) rfl h1]
      have go : ∀ (w : List Int) (n k : Nat), fst? n t w = some k → n ≤ k ∧ k < n + w.length := by
        intro w
        induction w with
        | nil => intro n k z; cases z
        | cons c w ih =>
          intro n k z
          unfold fst? at z
          rw [List.length_cons]
          by_cases y : c = t
          · rw [if_pos y] at z
            cases z
            omega
          · rw [if_neg y] at z
            have := ih (n + 1) k z
            omega
      have hk := go _ _ _ q
      rw [List.length_drop] at hk
      have ih := lp_loop S w f hf ts (k + 1) (acc ++ [k]) (by omega) (by rw [List.length_append, List.length_singleton]; omega)
      have e : (w.drop b).drop (k + 1 - b) = w.drop (k + 1) := by rw [List.drop_drop]; congr 1; omega
      show match (gp (k + 1) ts ((w.drop b).drop (k + 1 - b))).map (k :: ·) with | none => _ | some g => _
      rw [e]
      cases hg : gp (k + 1) ts (w.drop (k + 1)) with
      | none =>
        rw [hg] at ih
        exact ih
      | some g =>
        rw [hg] at ih
        obtain ⟨z, hz⟩ := ih
        refine ⟨z, ?_⟩
        rw [List.append_assoc] at hz
        exact hz
theorem rg2_ok {a b : Nat} (ha : a < 1000) (hb : b < 1000) : rg2 [.int (a : Int), .int (b : Int)] = some (rgD (a : Int) (b - a)) := by
  unfold rg2
  dsimp only
  rw [if_pos (by refine ⟨?_, ?_, ?_, ?_⟩ <;> omega), show ((b : Int) - (a : Int)).toNat = b - a by omega]
theorem rgD_idx2 (w : List Int) (b : Nat) : rgD (b : Int) (w.length - b) = (idx b (w.drop b)).map fun t => D.int (t.1 : Int) := by
  rw [← rg_idx (w.drop b) b, List.length_drop]
  unfold rgD
  rw [List.range'_eq_map_range, List.map_map]
  refine List.map_congr_left fun i _ => ?_
  show D.int ((b : Int) + (i : Int)) = D.int ((b + i : Nat) : Int)
  rw [Int.natCast_add]
theorem places_ok (S : Type) {d e : D} {row w : List Int} (hd : items d = some (row.map D.int)) (he : items e = some (w.map D.int)) (hl : row.length < 400) (hw : w.length < 400) : m__law_places S [d, e] = ret (optL (gp 0 row w)) := by
  unfold m__law_places
  dsimp only
  rw [bnd_ret, mkL_ok (by decide), lft_some, bnd_ret, bnd_ret, bnd_ret, hd, lft_some, bnd_ret]
  have key : ∀ (f : D → List D × D → MS S (Fl (List D × D) (List D × D))), (∀ (t : Int) (b : Nat) (acc : List Nat), b ≤ w.length → acc.length < 1000 → f (.int t) (nats acc, .int (b : Int)) = match fst? b t (w.drop b) with | none => ret (Fl.rt .non) | some k => ret (Fl.nx (nats (acc ++ [k]), .int ((k + 1 : Nat) : Int)))) →
      bnd (forF un1 f (row.map D.int) ([], .int 0)) (frD fun s5 => bnd (ret (.lst s5.1)) fun x39 => lft (oTuple x39)) = ret (optL (gp 0 row w)) := by
    intro f hf
    have main := lp_loop S w f hf row 0 [] (Nat.zero_le _) (by rw [List.length_nil]; omega)
    rw [List.drop_zero] at main
    cases hg : gp 0 row w with
    | none =>
      rw [hg] at main
      rw [show (([] : List D), D.int 0) = (nats [], D.int ((0 : Nat) : Int)) from rfl, main, bnd_ret]
      rfl
    | some g =>
      rw [hg] at main
      obtain ⟨z, hz⟩ := main
      rw [show (([] : List D), D.int 0) = (nats [], D.int ((0 : Nat) : Int)) from rfl, hz, bnd_ret]
      rfl
  refine key _ fun t b acc hb ha => ?_
  · dsimp only
    rw [bnd_ret, bnd_ret, len_ok he, List.length_map, lft_some, bnd_ret, bnd_ret, bnd_ret, bnd_ret, rg2_ok (by omega) (by omega), lft_some, bnd_ret, mkL_ok (by rw [rgD_len]; omega), lft_some, bnd_ret]
    rw [lcM_retI (e := fun x => D.int (x.1 : Int)) (p := fun x => decide (x.2 = t)) (g := fun x => D.int (x.1 : Int)) (ts := idx b (w.drop b)) (by rw [rgD_idx2, List.map_map]; rfl) (fun x hx => ?_) (fun x hx _ => rfl), bnd_ret, bnd_ret]
    · have hh := fst_head (w.drop b) b t
      have e3 : ((idx b (w.drop b)).filter fun x => decide (x.2 = t)).map (fun x => D.int (x.1 : Int)) = nats (((idx b (w.drop b)).filter fun x => decide (x.2 = t)).map Prod.fst) := by
        unfold nats
        rw [List.map_map]
        rfl
      rw [e3]
      generalize hL : ((idx b (w.drop b)).filter fun x => decide (x.2 = t)).map Prod.fst = L at hh
      have e4 : eqD (.lst (nats L)) (.lst []) = some (decide (L = [])) := by
        have := eqD_lst (L.map fun (n : Nat) => (n : Int)) []
        rw [List.map_map] at this
        refine Eq.trans this ?_
        congr 1
        cases L <;> rfl
      have e5 : oEq (.lst (nats L)) (.lst []) = some (.bl (decide (L = []))) := by
        unfold oEq
        rw [e4]
        rfl
      simp only [bnd_ret, bnd_bnd, lft_some, mkL_ok (show ([] : List D).length < 1000000 by decide), e5, asB_bl]
      cases L with
      | nil =>
        rw [← hh]
        rfl
      | cons k L =>
        rw [← hh]
        have e6 : oIx (.lst (nats (k :: L))) (.int 0) = some (.int (k : Int)) := show atI (nats (k :: L)) ((0 : Nat) : Int) = _ from L2.atI_nat (xs := nats (k :: L)) (j := 0) rfl
        have e7 : app1 (nats acc) (.int (k : Int)) = some (nats (acc ++ [k])) := by
          unfold app1 nats
          rw [if_pos (by rw [List.length_map]; unfold tooLong; omega), List.map_append]
          rfl
        rw [decide_eq_false (by intro z; cases z), if_neg Bool.false_ne_true]
        simp only [e6, e7, lft_some, bnd_ret, oAdd_int]
        rfl
    · have hb2 : (w.take b).length = b := by rw [List.length_take]; omega
      have hx2 : w[x.1]? = some x.2 := idx_at (cs := w) (w.drop b) (w.take b) (List.take_append_drop b w).symm x (by rw [hb2]; exact hx)
      simp only [bnd_ret, bnd_bnd, lft_some, ix_ok he hx2, oEq_int, asB_bl]
end G_spreadhues_k19_rows_struck_and_hidden

set_option Elab.async false
set_option linter.all false
set_option maxRecDepth 100000
set_option maxHeartbeats 2000000
namespace Dm
open PySem PySem.Spec PyProof.Rows L2
theorem dd_none : ∀ (p : Int) (r : List Int), dd none (dd (some p) r) = dd (some p) r
  | _, [] => rfl
  | p, c :: r => by
    show dd none (if c = p then dd (some c) r else c :: dd (some c) r) = if c = p then dd (some c) r else c :: dd (some c) r
    by_cases q : c = p
    · rw [if_pos q, dd_none c r]
    · rw [if_neg q]
      show c :: dd (some c) (dd (some c) r) = _
      rw [dd_idem]
theorem dd_head : ∀ (p : Int) (r : List Int), (dd (some p) r).take 1 ≠ [p]
  | _, [] => by intro h; cases h
  | p, c :: r => by
    show (if c = p then dd (some c) r else c :: dd (some c) r).take 1 ≠ [p]
    by_cases q : c = p
    · rw [if_pos q, ← q]
      exact dd_head c r
    · rw [if_neg q]
      intro h
      exact q (List.cons.inj h).1
/-- the head let go if it is the first colour -/
def le (k : Option Int) (xs : List Int) : List Int := match k with
  | none => xs
  | some k => if xs.take 1 = [k] then xs.drop 1 else xs
theorem le_t {k : Int} {xs : List Int} (h : xs.take 1 = [k]) : le (some k) xs = xs.drop 1 := if_pos h
theorem le_f {k : Int} {xs : List Int} (h : ¬ xs.take 1 = [k]) : le (some k) xs = xs := if_neg h
theorem le_idem (k : Option Int) (cs : List Int) : le k (dd none (le k (dd none cs))) = le k (dd none cs) := by
  cases k with
  | none => exact dd_idem none cs
  | some k =>
    by_cases h : (dd none cs).take 1 = [k]
    · rw [le_t h]
      cases cs with
      | nil => cases h
      | cons c r =>
        have hc : c = k := (List.cons.inj (show c :: _ = [k] from h)).1
        subst hc
        show le (some c) (dd none (dd (some c) r)) = dd (some c) r
        rw [dd_none, le_f (dd_head c r)]
    · rw [le_f h, dd_idem, le_f h]
def fo : Option Int → D
  | none => .non
  | some k => .int k
theorem cut_take {α : Type} (xs : List α) : cut xs none (some 1) = xs.take 1 := by
  cases xs <;> simp [cut, HT.sIx]
theorem cut_drop {α : Type} (xs : List α) : cut xs (some 1) none = xs.drop 1 := by
  cases xs <;> simp [cut, HT.sIx]
theorem eqD_non_tup (cs : List Int) : eqD (.tup (cs.map D.int)) (.tup [.non]) = some false := by
  unfold eqD toPy
  rw [toPys_ints]
  cases cs with
  | nil => simp [toPys, toPy, SeqAt.shaped, PyData.canLay0, PyData.depth, PyData.canLayAll0, PyData.depthAll, PyData.eqv, PyData.eqvAll]
  | cons c r => simp [toPys, toPy, SeqAt.shaped, PyData.canLay0, PyData.depth, lay_ints, depth_ints, PyData.canLayAll0, PyData.depthAll, PyData.eqv, PyData.eqvAll]
theorem eqD_optL (o : Option (List Nat)) : eqD (optL o) (optL o) = some true := by
  cases o with
  | none => rfl
  | some g =>
    have h := eqD_tup (g.map fun (n : Nat) => (n : Int)) (g.map fun (n : Nat) => (n : Int))
    rw [List.map_map, decide_eq_true rfl] at h
    exact h
theorem oNe_of {d e : D} {b : Bool} (h : eqD d e = some b) : oNe d e = some (.bl (!b)) := by
  unfold oNe
  rw [h]
  rfl
theorem oEq_of {d e : D} {b : Bool} (h : eqD d e = some b) : oEq d e = some (.bl b) := by
  unfold oEq
  rw [h]
  rfl
theorem dd_len : ∀ (o : Option Int) (r : List Int), (dd o r).length ≤ r.length
  | none, [] => Nat.le_refl _
  | some _, [] => Nat.le_refl _
  | none, c :: r => Nat.succ_le_succ (dd_len (some c) r)
  | some p, c :: r => by
    show (if c = p then dd (some c) r else c :: dd (some c) r).length ≤ _
    by_cases q : c = p
    · rw [if_pos q]
      exact Nat.le_succ_of_le (dd_len (some c) r)
    · rw [if_neg q]
      exact Nat.succ_le_succ (dd_len (some c) r)
theorem dd_mem : ∀ (o : Option Int) (r : List Int), ∀ x ∈ dd o r, x ∈ r
  | none, [], x, h => h
  | some _, [], x, h => h
  | none, c :: r, x, h => by
    rcases List.mem_cons.mp h with h | h
    · rw [h]
      simp
    · exact List.mem_cons_of_mem _ (dd_mem (some c) r x h)
  | some p, c :: r, x, h => by
    have h : x ∈ (if c = p then dd (some c) r else c :: dd (some c) r) := h
    by_cases q : c = p
    · rw [if_pos q] at h
      exact List.mem_cons_of_mem _ (dd_mem (some c) r x h)
    · rw [if_neg q] at h
      rcases List.mem_cons.mp h with h | h
      · rw [h]
        simp
      · exact List.mem_cons_of_mem _ (dd_mem (some c) r x h)
theorem le_mem {k : Option Int} {xs : List Int} {x : Int} (h : x ∈ le k xs) : x ∈ xs := by
  cases k with
  | none => exact h
  | some k =>
    unfold le at h
    dsimp only at h
    split at h
    · exact List.mem_of_mem_drop h
    · exact h
theorem le_len (k : Option Int) (xs : List Int) : (le k xs).length ≤ xs.length := by
  cases k with
  | none => exact Nat.le_refl _
  | some k =>
    unfold le
    dsimp only
    split
    · rw [List.length_drop]
      omega
    · exact Nat.le_refl _
end Dm
namespace G_spreadhues_k19_rows_struck_and_hidden
open PySem PySem.Spec PyProof.Rows L2 Dm
/-- colours, at most 40 -/
def Cs (cs : List Int) : Prop := cs.length ≤ 40 ∧ ∀ c ∈ cs, 0 ≤ c ∧ c < 100
theorem Cs.col {cs : List Int} (h : Cs cs) : ∀ x ∈ cs.map D.int, isCol x = true := fun x hx => by
  obtain ⟨c, hc, rfl⟩ := List.mem_map.mp hx
  have := h.2 c hc
  show (decide (0 ≤ c) && decide (c ≤ 99)) = true
  rw [decide_eq_true this.1, decide_eq_true (by omega)]
  rfl
theorem Cs.pl {cs : List Int} : ∀ x ∈ cs.map D.int, Pl x := fun x hx => by
  obtain ⟨c, hc, rfl⟩ := List.mem_map.mp hx
  trivial
theorem Cs.check {cs : List Int} (S : Type) (h : Cs cs) {d : D} (hd : items d = some (cs.map D.int)) : m_check_row S [d, .int 40] = ret (.tup (cs.map D.int)) :=
  check_ok S hd (by rw [List.length_map]; exact h.1) h.col Cs.pl
theorem struckrow_ok (S : Type) {cs : List Int} (h : Cs cs) {d : D} (hd : items d = some (cs.map D.int)) : m_struck_row S [d] = ret (.tup ((dd none cs).map D.int)) := by
  unfold m_struck_row
  simp only [bnd_ret, bnd_bnd, lft_some, List.append_nil, h.check S hd, strike_ok S (d := .tup (cs.map D.int)) rfl (by have := h.1; omega)]
theorem hidden_ok (S : Type) {cs ws : List Int} (h : Cs cs) (hw : Cs ws) {d e : D} (hd : items d = some (cs.map D.int)) (he : items e = some (ws.map D.int)) : m_hidden_places S [d, e] = ret (optL (gp 0 cs ws)) := by
  unfold m_hidden_places
  have l1 := h.1
  have l2 := hw.1
  simp only [bnd_ret, bnd_bnd, lft_some, List.append_nil, h.check S hd, hw.check S he, find_ok S (d := .tup (cs.map D.int)) (e := .tup (ws.map D.int)) rfl rfl (by omega) (by omega)]
theorem ishidden_ok (S : Type) {cs ws : List Int} (h : Cs cs) (hw : Cs ws) {d e : D} (hd : items d = some (cs.map D.int)) (he : items e = some (ws.map D.int)) : m_is_hidden S [d, e] = ret (.bl (!isN (optL (gp 0 cs ws)))) := by
  unfold m_is_hidden
  simp only [bnd_ret, bnd_bnd, lft_some, List.append_nil, hidden_ok S h hw hd he]
  rfl
theorem first_ok (S : Type) {k : Option Int} (h : ∀ c, k = some c → 0 ≤ c ∧ c < 100) : m__check_first S [fo k] = ret .non := by
  unfold m__check_first m_check_colour
  cases k with
  | none => rfl
  | some c =>
    have hc := h c rfl
    have e : isCol (.int c) = true := by
      show (decide (0 ≤ c) && decide (c ≤ 99)) = true
      rw [decide_eq_true hc.1, decide_eq_true (by omega)]
      rfl
    have e1 : oNis (.int c) .non = some (.bl true) := rfl
    simp only [fo, bnd_ret, bnd_bnd, lft_some, List.append_nil, e1, asB_bl, if_true, colour_ok S (d := .int c) trivial, e, tru_bl, Bool.not_true, Bool.false_eq_true, if_false]
def hd1 (k : Option Int) (xs : List Int) : Bool := match k with
  | none => false
  | some k => decide (xs.take 1 = [k])
theorem slice_tail (S : Type) (xs : List Int) (k : Option Int) :
    (if hd1 k xs = true then (lft (oSl (.tup (xs.map D.int)) (some 1) none) : MS S D) else ret (.tup (xs.map D.int))) = ret (.tup ((le k xs).map D.int)) := by
  have e : oSl (.tup (xs.map D.int)) (some 1) none = some (.tup ((xs.drop 1).map D.int)) := by
    show some (D.tup (cut (xs.map D.int) (some 1) none)) = _
    rw [cut_drop, List.map_drop]
  rw [e, lft_some]
  cases k with
  | none => rfl
  | some k =>
    by_cases h : xs.take 1 = [k]
    · rw [le_t h, if_pos (show hd1 (some k) xs = true from decide_eq_true h)]
    · rw [le_f h, if_neg (by intro z; exact h (of_decide_eq_true z))]
theorem slice_tailL (S : Type) (xs : List Int) (k : Option Int) :
    (if hd1 k xs = true then (lft (oSl (.lst (xs.map D.int)) (some 1) none) : MS S D) else ret (.lst (xs.map D.int))) = ret (.lst ((le k xs).map D.int)) := by
  have e : oSl (.lst (xs.map D.int)) (some 1) none = some (.lst ((xs.drop 1).map D.int)) := by
    show some (D.lst (cut (xs.map D.int) (some 1) none)) = _
    rw [cut_drop, List.map_drop]
  rw [e, lft_some]
  cases k with
  | none => rfl
  | some k =>
    by_cases h : xs.take 1 = [k]
    · rw [le_t h, if_pos (show hd1 (some k) xs = true from decide_eq_true h)]
    · rw [le_f h, if_neg (by intro z; exact h (of_decide_eq_true z))]
theorem leq_ok (S : Type) {cs : List Int} {k : Option Int} (hl : cs.length < 1000) : m__least_equal S [.tup (cs.map D.int), fo k] = ret (.tup ((le k (dd none cs)).map D.int)) := by
  unfold m__least_equal
  have e1 : oInt? (.int 1) = some (some 1) := rfl
  have e2 : oSl (.tup ((dd none cs).map D.int)) none (some 1) = some (.tup (((dd none cs).take 1).map D.int)) := by
    show some (D.tup (cut ((dd none cs).map D.int) none (some 1))) = _
    rw [cut_take, List.map_take]
  have e3 : oEq (.tup (((dd none cs).take 1).map D.int)) (.tup [fo k]) = some (.bl (hd1 k (dd none cs))) := by
    cases k with
    | none => exact oEq_of (eqD_non_tup _)
    | some k => exact oEq_of (eqD_tup _ [k])
  simp only [bnd_ret, bnd_bnd, lft_some, List.append_nil, strike_ok S (d := .tup (cs.map D.int)) rfl hl, e1, e2, mkL_ok (show ([fo k] : List D).length < 1000000 by show 1 < 1000000; decide), Option.map_some, e3, asB_bl]
  exact slice_tail S _ k
theorem leastrow_ok (S : Type) {cs : List Int} {k : Option Int} (h : Cs cs) (hk : ∀ c, k = some c → 0 ≤ c ∧ c < 100) {d : D} (hd : items d = some (cs.map D.int)) : m_least_equal_row S [d, fo k] = ret (.tup ((le k (dd none cs)).map D.int)) := by
  unfold m_least_equal_row
  simp only [bnd_ret, bnd_bnd, lft_some, List.append_nil, h.check S hd, first_ok S hk, leq_ok S (k := k) (cs := cs) (by have := h.1; omega)]
end G_spreadhues_k19_rows_struck_and_hidden

set_option Elab.async false
set_option linter.all false
set_option maxRecDepth 100000
set_option maxHeartbeats 2000000
namespace G_spreadhues_k19_rows_struck_and_hidden
open PySem PySem.Spec PyProof.Rows L2 Dm
theorem strip_ok (S : Type) {cs : List Int} {k : Option Int} {d : D} (hd : items d = some (cs.map D.int)) (hl : cs.length < 1000) : m__law_strip S [d, fo k] = ret (.lst ((le k (dd none cs)).map D.int)) := by
  unfold m__law_strip
  have e1 : oInt? (.int 1) = some (some 1) := rfl
  have e2 : oSl (.lst ((dd none cs).map D.int)) none (some 1) = some (.lst (((dd none cs).take 1).map D.int)) := by
    show some (D.lst (cut ((dd none cs).map D.int) none (some 1))) = _
    rw [cut_take, List.map_take]
  simp only [bnd_ret, bnd_bnd, lft_some, List.append_nil, struck_ok S hd hl]
  cases k with
  | none => rfl
  | some k =>
    have e3 : oEq (.lst (((dd none cs).take 1).map D.int)) (.lst [.int k]) = some (.bl (hd1 (some k) (dd none cs))) := oEq_of (eqD_lst _ [k])
    have e4 : oNis (fo (some k)) .non = some (.bl true) := rfl
    have e5 : mkL [fo (some k)] = some [.int k] := rfl
    simp only [e4, e5, bnd_ret, bnd_bnd, lft_some, asB_bl, if_true, e1, e2, e3]
    exact slice_tailL S _ (some k)
theorem tupInt (S : Type) (k : Nat) (c : Int) : m__law_tuples (k + 1) S [.int c] = ret (.bl true) := by
  unfold m__law_tuples
  have e1 : oIsA .tuple (.int c) = some (.bl false) := rfl
  have e2 : oIs (.int c) .non = some (.bl false) := rfl
  have e3 : oIsA .int (.int c) = some (.bl true) := rfl
  have e4 : oIsA .bool (.int c) = some (.bl false) := rfl
  simp only [bnd_ret, bnd_bnd, lft_some, e1, e2, e3, e4, tru_bl, asB_bl, Bool.false_eq_true, if_false, if_true, Bool.not_false]
theorem tuples_ok (S : Type) {cs : List Int} (hl : cs.length < 1000) : m__law_tuples 3 S [.tup (cs.map D.int)] = ret (.bl true) := by
  unfold m__law_tuples
  have e1 : oIsA .tuple (.tup (cs.map D.int)) = some (.bl true) := rfl
  have e2 : items (.tup (cs.map D.int)) = some (cs.map D.int) := rfl
  simp only [bnd_ret, bnd_bnd, lft_some, e1, e2, tru_bl, if_true, mkL_ok (show (cs.map D.int).length < 1000000 by rw [List.length_map]; omega)]
  rw [lcM_retI (e := fun c => D.int c) (p := fun _ => false) (g := fun _ => D.int 1) (ts := cs) (by rw [List.map_map]; rfl) (fun c _ => ?_) (fun c _ h => by cases h), bnd_ret, List.filter_eq_nil_iff.mpr (fun _ _ h => by cases h)]
  · rfl
  · simp only [List.append_nil, tupInt, bnd_ret, tru_bl, lft_some, Bool.not_true]
theorem says_ok (S : Type) (b : Bool) : m__law_says S [.bl b, .bl b] = ret (.bl true) := by
  cases b <;> rfl
theorem map_nats (g : List Nat) : (g.map fun (n : Nat) => D.int (n : Int)) = (g.map fun (n : Nat) => (n : Int)).map D.int := by
  rw [List.map_map]
  rfl
theorem gp_len : ∀ (w : List Int) (n : Nat) (r : List Int) (g : List Nat), gp n r w = some g → g.length ≤ w.length
  | w, n, [], g, h => by
    have : gp n [] w = some [] := by cases w <;> rfl
    rw [this] at h
    cases h
    exact Nat.zero_le _
  | [], n, t :: ts, g, h => by cases h
  | c :: w, n, t :: ts, g, h => by
    have h : (if c = t then (gp (n + 1) ts w).map (n :: ·) else gp (n + 1) (t :: ts) w) = some g := h
    by_cases q : c = t
    · rw [if_pos q] at h
      cases e : gp (n + 1) ts w with
      | none => rw [e] at h; cases h
      | some g' =>
        rw [e] at h
        cases h
        exact Nat.succ_le_succ (gp_len w (n + 1) ts g' e)
    · rw [if_neg q] at h
      exact Nat.le_succ_of_le (gp_len w (n + 1) (t :: ts) g h)
theorem right_ok (S : Type) {cs ws : List Int} {k : Option Int} (h : Cs cs) (hw : Cs ws) (hk : ∀ c, k = some c → 0 ≤ c ∧ c < 100) {d e : D} (hd : d = .lst (cs.map D.int)) (he : e = .lst (ws.map D.int)) : m__law_right S [d, e, fo k] = ret (.bl true) := by
  have id : items d = some (cs.map D.int) := by rw [hd]; rfl
  have ie : items e = some (ws.map D.int) := by rw [he]; rfl
  have hd0 : Cs (dd none cs) := ⟨Nat.le_trans (dd_len _ _) h.1, fun c hc => h.2 c (dd_mem _ _ c hc)⟩
  have hle : Cs (le k (dd none cs)) := ⟨Nat.le_trans (le_len _ _) hd0.1, fun c hc => hd0.2 c (le_mem hc)⟩
  have l0 := h.1
  have l1 := hd0.1
  have l2 := hle.1
  have l3 := hw.1
  have td : oTuple d = some (.tup (cs.map D.int)) := tuple_ok id
  have te : oTuple e = some (.tup (ws.map D.int)) := tuple_ok ie
  have tl : ∀ xs : List Int, oTuple (.lst (xs.map D.int)) = some (.tup (xs.map D.int)) := fun xs => rfl
  have ne : ∀ xs : List Int, oNe (.tup (xs.map D.int)) (.tup (xs.map D.int)) = some (.bl false) := fun xs => by
    have := oNe_of (eqD_tup xs xs)
    rw [decide_eq_true rfl] at this
    exact this
  have eq : ∀ xs : List Int, oEq (.tup (xs.map D.int)) (.tup (xs.map D.int)) = some (.bl true) := fun xs => by
    have := oEq_of (eqD_tup xs xs)
    rw [decide_eq_true rfl] at this
    exact this
  have ngp : oNe (optL (gp 0 cs ws)) (optL (gp 0 cs ws)) = some (.bl false) := oNe_of (eqD_optL _)
  have nis : ∀ x : D, oNis x .non = some (.bl (!isN x)) := fun x => rfl
  have p1 : (if (!isN (optL (gp 0 cs ws))) = true then bnd (m__law_tuples 3 S [optL (gp 0 cs ws)]) fun a => bnd (lft (tru a)) fun b15 => ret !b15 else ret false : MS S Bool) = ret false := by
    cases hg : gp 0 cs ws with
    | none => rfl
    | some g =>
      have hl := gp_len ws 0 cs g hg
      have ht : m__law_tuples 3 S [optL (some g)] = ret (.bl true) := by
        show m__law_tuples 3 S [.tup (g.map fun (n : Nat) => D.int (n : Int))] = _
        rw [map_nats]
        exact tuples_ok S (by rw [List.length_map]; omega)
      rw [ht]
      rfl
  have p2 : (bnd (if isN (fo k) = true then m_least_equal_row S ([d] ++ [D.non]) else m_least_equal_row S [d, fo k]) ret : MS S D) = ret (.tup ((le k (dd none cs)).map D.int)) := by
    cases k with
    | none =>
      show bnd (m_least_equal_row S [d, fo none]) ret = _
      rw [leastrow_ok S h hk id, bnd_ret]
    | some k =>
      show bnd (m_least_equal_row S [d, fo (some k)]) ret = _
      rw [leastrow_ok S h hk id, bnd_ret]
  have p3 : (if isN (fo k) = true then m_least_equal_row S ([d] ++ [D.non]) else m_least_equal_row S [d, fo k]) = ret (.tup ((le k (dd none cs)).map D.int)) := by
    rw [bnd_id] at p2
    exact p2
  have ois : oIs (fo k) .non = some (.bl (isN (fo k))) := rfl
  have p4 : m_least_equal_row S [.tup ((le k (dd none cs)).map D.int), fo k] = ret (.tup ((le k (dd none cs)).map D.int)) := by
    rw [leastrow_ok S hle hk (d := .tup ((le k (dd none cs)).map D.int)) rfl, le_idem]
  have p5 : (if [D.tup ((le k (dd none cs)).map D.int)].length = 1 ∧ [fo k].length = 1 then m_least_equal_row S ([D.tup ((le k (dd none cs)).map D.int)] ++ [fo k]) else stk) = ret (.tup ((le k (dd none cs)).map D.int)) := by
    rw [if_pos ⟨rfl, rfl⟩]
    exact p4
  unfold m__law_right
  simp only [bnd_ret, bnd_bnd, lft_some, List.append_nil, struckrow_ok S h id, struck_ok S id (by omega : cs.length < 1000), tl, ne, asB_bl, Bool.false_eq_true, if_false, tuples_ok S (by omega : (dd none cs).length < 1000), tru_bl, Bool.not_true, struckrow_ok S hd0 (d := .tup ((dd none cs).map D.int)) rfl, dd_idem,
    places_ok S id ie (by omega) (by omega), td, hidden_ok S h hw (d := .tup (cs.map D.int)) rfl ie, ngp, nis]
  rw [p1, bnd_ret, if_neg Bool.false_ne_true, te, lft_some, bnd_ret, ishidden_ok S h hw (d := d) (e := .tup (ws.map D.int)) id rfl, bnd_ret, says_ok, bnd_ret, tru_bl, lft_some, bnd_ret, bnd_ret]
  simp only [Bool.not_true, Bool.false_eq_true, if_false, strip_ok S id (by omega : cs.length < 1000), bnd_ret, ois, lft_some, asB_bl]
  rw [p3]
  simp only [bnd_ret, lft_some, tl, eq, asB_bl, if_true, tuples_ok S (by omega : (le k (dd none cs)).length < 1000)]
  rw [p5, bnd_ret, eq, lft_some]
end G_spreadhues_k19_rows_struck_and_hidden

set_option Elab.async false
set_option linter.all false
set_option maxRecDepth 100000
set_option maxHeartbeats 2000000
namespace G_spreadhues_k19_rows_struck_and_hidden
open PySem PySem.Spec PyProof.Rows L2 Dm
theorem okD_nat {n : Nat} (h : n < 1000) : okD_BadRow [.int (n : Int)] = true := by
  unfold okD_BadRow
  simp only [fmtD, sld_eq]
  exact decide_eq_true ⟨by omega, by omega⟩
/-- no sequence -/
theorem check_nosq (S : Type) {d m : D} (h : isAs [.list, .tuple] d = some false) : m_check_row S [d, m] = rse 1 [.int 0] := by
  unfold m_check_row m_is_sequence
  have e1 : oIsAs [.list, .tuple] d = some (.bl false) := by
    unfold oIsAs
    rw [h]
    rfl
  have e2 : okD_BadRow [.int 0] = true := okD_nat (n := 0) (by decide)
  simp only [bnd_ret, bnd_bnd, lft_some, List.append_nil, e1, tru_bl, Bool.not_false, if_true, e2]
  rfl
/-- too long -/
theorem check_long (S : Type) {d : D} {ds : List D} (hd : items d = some ds) (hl : 40 < ds.length) : m_check_row S [d, .int 40] = rse 1 [.int 0] := by
  unfold m_check_row
  have e2 : okD_BadRow [.int 0] = true := okD_nat (n := 0) (by decide)
  simp only [bnd_ret, bnd_bnd, lft_some, List.append_nil, seq_ok S hd, tru_bl, Bool.not_true, Bool.false_eq_true, if_false, len_ok hd, oGt_int, asB_bl, decide_eq_true (by omega : (40 : Int) < (ds.length : Int)), if_true, e2]
  rfl
/-- where the first wrong item stands -/
theorem badAt_at : ∀ {ds : List D} {n : Nat} {x : D} {r : List D}, (∀ d ∈ ds, isCol d = true) → isCol x = false → badAt n (ds ++ x :: r) = some (n + ds.length)
  | [], n, x, r, _, hx => by
    show (if isCol x = true then _ else some n) = _
    rw [hx, if_neg Bool.false_ne_true]
    rfl
  | d :: ds, n, x, r, h, hx => by
    show (if isCol d = true then badAt (n + 1) (ds ++ x :: r) else some n) = _
    rw [if_pos (h d (by simp)), badAt_at (fun d hd => h d (by simp [hd])) hx, List.length_cons]
    congr 1
    omega
end G_spreadhues_k19_rows_struck_and_hidden

set_option Elab.async false
set_option linter.all false
set_option maxRecDepth 100000
set_option maxHeartbeats 2000000
namespace Dm
open PySem PySem.Spec PyProof.Rows L2
theorem tk_ite {α : Type} {cells : List Int} {P : α → Prop} {b : Bool} {m n : MS Hd α} (h1 : b = true → Tk cells m P) (h2 : b = false → Tk cells n P) : Tk cells (if b = true then m else n) P := by
  cases b with
  | true => rw [if_pos rfl]; exact h1 rfl
  | false => rw [if_neg Bool.false_ne_true]; exact h2 rfl
theorem cut_takeN {α : Type} (xs : List α) (k : Nat) : cut xs none (some (k : Int)) = xs.take k := by
  unfold cut
  rw [HT.sIx_none, HT.sIx_nat, List.drop_zero, Nat.sub_zero]
  by_cases h : k ≤ xs.length
  · rw [Nat.min_eq_left h]
  · rw [Nat.min_eq_right (by omega), List.take_of_length_le (Nat.le_refl _), List.take_of_length_le (by omega)]
theorem items_lst (ds : List D) : items (.lst ds) = some ds := rfl
theorem items_tup (ds : List D) : items (.tup ds) = some ds := rfl
theorem tru_lst (ds : List D) : tru (.lst ds) = some (!ds.isEmpty) := rfl
theorem oMin2_int (i j : Int) : oMin2 (.int i) (.int j) = some (.int (if j < i then j else i)) := rfl
theorem oIx_nat {ds : List D} {k : Nat} {d : D} (h : ds[k]? = some d) : oIx (.lst ds) (.int (k : Int)) = some d := L2.atI_nat h
theorem seqIndex_nat {k n : Nat} (h : k < n) : ixN n (k : Int) = some k := by
  unfold ixN
  rw [if_pos (by omega), if_pos (by omega), Int.toNat_natCast]
theorem ins_ok {ds : List D} {k : Nat} {d : D} (h : ds.length < 1000) (hk : k < 1000) : ins1 ds (.int (k : Int)) d = some (ds.take k ++ [d] ++ ds.drop k) := by
  unfold ins1
  dsimp only
  rw [if_pos ⟨by unfold tooLong; omega, by omega, by omega⟩, Int.toNat_natCast]
theorem set1_ok {ds : List D} {k : Nat} {d : D} (h : k < ds.length) : set1 ds (.int (k : Int)) d = some (ds.set k d) := by
  unfold set1
  dsimp only
  rw [seqIndex_nat h]
theorem pop_ok {ds : List D} {k : Nat} (h : k < ds.length) (hl : ds.length < 1000) : popA ds (.int (k : Int)) = some (ds.eraseIdx k) := by
  have e : seqIndex? (k : Int) ds.length = some k := (ixN_seq (seqIndex_nat h)).1
  unfold popA
  dsimp only
  rw [if_pos ⟨by omega, by omega⟩, e]
  dsimp only
  rw [if_pos h]
end Dm
namespace G_spreadhues_k19_rows_struck_and_hidden
open PySem PySem.Spec PyProof.Rows L2 Dm
/-- at most n colours -/
def Bd (n : Nat) (ds : List D) : Prop := ds.length ≤ n ∧ ∀ x ∈ ds, Cl x
theorem Bd.up {n m : Nat} {ds : List D} (h : Bd n ds) (w : n ≤ m) : Bd m ds := ⟨Nat.le_trans h.1 w, h.2⟩
theorem Bd.ins {n k : Nat} {ds : List D} {x : D} (h : Bd n ds) (hx : Cl x) : Bd (n + 1) (ds.take k ++ [x] ++ ds.drop k) := by
  refine ⟨?_, fun y hy => ?_⟩
  · have := h.1
    simp only [List.length_append, List.length_take, List.length_drop, List.length_singleton]
    omega
  · rcases List.mem_append.mp hy with hy | hy
    · rcases List.mem_append.mp hy with hy | hy
      · exact h.2 y (List.mem_of_mem_take hy)
      · rw [List.mem_singleton.mp hy]
        exact hx
    · exact h.2 y (List.mem_of_mem_drop hy)
theorem Bd.era {n k : Nat} {ds : List D} (h : Bd n ds) : Bd n (ds.eraseIdx k) :=
  ⟨Nat.le_trans (List.eraseIdx_sublist ds k).length_le h.1, fun y hy => h.2 y ((List.eraseIdx_sublist ds k).subset hy)⟩
theorem Bd.set {n k : Nat} {ds : List D} {x : D} (h : Bd n ds) (hx : Cl x) : Bd n (ds.set k x) :=
  ⟨by rw [List.length_set]; exact h.1, fun y hy => by
    rcases List.mem_or_eq_of_mem_set hy with q | q
    · exact h.2 y q
    · rw [q]
      exact hx⟩
theorem Bd.get {n k : Nat} {ds : List D} (h : Bd n ds) (hk : k < ds.length) : ∃ x, ds[k]? = some x ∧ Cl x := ⟨ds[k], List.getElem?_eq_getElem hk, h.2 _ (List.getElem_mem hk)⟩
/-- the lesser of two -/
theorem min_nat (i j : Nat) : (if (j : Int) < (i : Int) then (j : Int) else (i : Int)) = ((min i j : Nat) : Int) := by
  by_cases h : j < i
  · rw [if_pos (by omega), Nat.min_eq_right (by omega)]
  · rw [if_neg (by omega), Nat.min_eq_left (by omega)]
theorem varied_ok {cells : List Int} {ds : List D} {t : Int} (h : Bd 40 ds) (t0 : 0 < t) (t1 : t ≤ 100) (hc : cells.length ≤ 63) : Tk cells (m__law_varied cells [.lst ds, .int t, .int 40]) (Rw 40) := by
  have l0 := h.1
  unfold m__law_varied
  simp only [bnd_ret, bnd_bnd, lft_some, List.append_nil, items_lst, oLen_lst, oAdd_int, tru_lst]
  refine tk_bnd (take_ok (n := 6) (by decide) (by decide) hc) fun d hd => ?_
  obtain ⟨kk, rfl, k0, k1⟩ := hd
  refine tk_bnd (take_ok (n := (ds.length : Int) + 1) (by omega) (by omega) hc) fun d hd => ?_
  obtain ⟨at', rfl, a0, a1⟩ := hd
  obtain ⟨a, rfl⟩ := Int.eq_ofNat_of_zero_le a0
  simp only [bnd_ret, lft_some, oEq_int, asB_bl]
  have ne : ∀ s : List D, (!s.isEmpty) = true → 0 < s.length := fun s hs => by
    cases s with
    | nil => cases hs
    | cons x s => exact Nat.succ_pos _
  have tst : ∀ (c : Bool) (s : List D), Tk cells (if c = true then (ret (!s.isEmpty) : MS Hd Bool) else ret false) (fun b => b = true → 0 < s.length) := fun c s => tk_ite (fun _ => tk_ret (ne s)) fun _ => tk_ret fun z => by cases z
  refine tk_bnd (tst _ ds) fun b hb => tk_bnd (P := Bd 41) (tk_ite (fun e => ?_) fun _ => tk_ret (h.up (by decide))) fun s20 h20 => ?_
  · have hp := hb e
    obtain ⟨x, hx, cx⟩ := h.get (k := min a (ds.length - 1)) (by omega)
    have e1 : ((ds.length : Int) - 1) = ((ds.length - 1 : Nat) : Int) := by omega
    rw [oSub_int, lft_some, bnd_ret, e1, oMin2_int, min_nat, lft_some, bnd_ret, oIx_nat hx, lft_some, bnd_ret, ins_ok (by omega) (by omega), lft_some, bnd_ret]
    exact tk_ret (h.ins cx)
  refine tk_bnd (P := Bd 42) (tk_ite (fun e => ?_) fun _ => tk_ret (h20.up (by decide))) fun s35 h35 => ?_
  · refine tk_bnd (take_ok t0 (by omega) hc) fun d hd => ?_
    obtain ⟨k, rfl, q0, q1⟩ := hd
    have := h20.1
    rw [show (0 : Int) = ((0 : Nat) : Int) from rfl, ins_ok (by omega) (by omega), lft_some, bnd_ret]
    exact tk_ret (h20.ins ⟨k, rfl, q0, by omega⟩)
  refine tk_bnd (tst _ s35) fun b hb => tk_bnd (P := Bd 42) (tk_ite (fun e => ?_) fun _ => tk_ret h35) fun s48 h48 => ?_
  · have hp := hb e
    have := h35.1
    have e1 : ((s35.length : Int) - 1) = ((s35.length - 1 : Nat) : Int) := by omega
    rw [oSub_int, lft_some, bnd_ret, e1, oMin2_int, min_nat, lft_some, bnd_ret, pop_ok (by omega) (by omega), lft_some, bnd_ret]
    exact tk_ret h35.era
  refine tk_bnd (P := Bd 43) (tk_ite (fun e => ?_) fun _ => tk_ret (h48.up (by decide))) fun s61 h61 => ?_
  · refine tk_bnd (tone_ok t0 t1 hc) fun d hd => ?_
    have := h48.1
    rw [ins_ok (by omega) (by omega), lft_some, bnd_ret]
    exact tk_ret (h48.ins hd)
  refine tk_bnd (P := fun b => b = true → 1 < s61.length) (tk_ite (fun _ => ?_) fun _ => tk_ret fun z => by cases z) fun b hb => tk_bnd (P := Bd 43) (tk_ite (fun e => ?_) fun _ => tk_ret h61) fun s77 h77 => ?_
  · rw [oGt_int, lft_some, bnd_ret, asB_bl, lft_some]
    exact tk_ret fun z => by have := of_decide_eq_true z; omega
  · have hp := hb e
    have := h61.1
    have e1 : ((s61.length : Int) - 2) = ((s61.length - 2 : Nat) : Int) := by omega
    obtain ⟨x, hx, cx⟩ := h61.get (k := min a (s61.length - 2)) (by omega)
    obtain ⟨y, hy, cy⟩ := h61.get (k := min a (s61.length - 2) + 1) (by omega)
    have e2 : ((min a (s61.length - 2) : Nat) : Int) + 1 = ((min a (s61.length - 2) + 1 : Nat) : Int) := by omega
    rw [oSub_int, lft_some, bnd_ret, e1, oMin2_int, min_nat, lft_some, bnd_ret, oAdd_int, lft_some, bnd_ret, e2, oIx_nat hy, lft_some, bnd_ret, oIx_nat hx, lft_some, bnd_ret]
    have e3 : two [y, x] = some (y, x) := rfl
    rw [e3, lft_some, bnd_ret, set1_ok (by omega), lft_some, bnd_ret, bnd_ret, set1_ok (by rw [List.length_set]; omega), lft_some, bnd_ret]
    exact tk_ret ((h61.set cy).set cx)
  refine tk_bnd (tst _ s77) fun b hb => tk_bnd (P := Bd 43) (tk_ite (fun e => ?_) fun _ => tk_ret h77) fun s107 h107 => ?_
  · have hp := hb e
    have := h77.1
    refine tk_bnd (tone_ok t0 t1 hc) fun d hd => ?_
    have e1 : ((s77.length : Int) - 1) = ((s77.length - 1 : Nat) : Int) := by omega
    rw [oSub_int, lft_some, bnd_ret, e1, oMin2_int, min_nat, lft_some, bnd_ret, set1_ok (by omega), lft_some, bnd_ret]
    exact tk_ret (h77.set hd)
  have e4 : oInt? (.int 40) = some (some 40) := rfl
  have e5 : oSl (.lst s107) none (some 40) = some (.lst (s107.take 40)) := by
    show some (D.lst (cut s107 none (some ((40 : Nat) : Int)))) = _
    rw [cut_takeN]
  rw [e4, lft_some, bnd_ret, e5, lft_some]
  exact tk_ret ⟨_, rfl, by rw [List.length_take]; omega, fun x hx => h107.2 x (List.mem_of_mem_take hx)⟩
end G_spreadhues_k19_rows_struck_and_hidden

set_option Elab.async false
set_option linter.all false
set_option maxRecDepth 100000
set_option maxHeartbeats 2000000
namespace G_spreadhues_k19_rows_struck_and_hidden
open PySem PySem.Spec PyProof.Rows L2 Dm
theorem check_bad (S : Type) {d x : D} {good r : List D} (hd : items d = some (good ++ x :: r)) (hl : (good ++ x :: r).length ≤ 40) (hg : ∀ y ∈ good, isCol y = true) (hx : isCol x = false) (hp : ∀ y ∈ good ++ x :: r, Pl y) : m_check_row S [d, .int 40] = rse 1 [.int (good.length : Int)] := by
  have hb : badAt 0 (good ++ x :: r) = some good.length := by rw [badAt_at hg hx, Nat.zero_add]
  have lg : good.length < 1000 := by rw [List.length_append, List.length_cons] at hl; omega
  have e2 : okD_BadRow [.int (good.length : Int)] = true := okD_nat lg
  have e1 : oNis (.int (good.length : Int)) .non = some (.bl true) := rfl
  unfold m_check_row
  simp only [bnd_ret, bnd_bnd, lft_some, List.append_nil, seq_ok S hd, tru_bl, Bool.not_true, Bool.false_eq_true, if_false, len_ok hd, oGt_int, asB_bl, decide_eq_false (by omega : ¬ (40 : Int) < ((good ++ x :: r).length : Int)), wrong_ok S hd hp, hb, opt, e1, if_true]
  rw [if_pos e2]
  rfl
/-- a row that is refused, and where -/
def Nr (d : D) : Prop := ∃ (b : D) (i : Nat), d = .tup [b, .int (i : Int)] ∧ ∀ S : Type, m_check_row S [b, .int 40] = rse 1 [.int (i : Int)]
theorem Cl.col {x : D} (h : Cl x) : isCol x = true := by
  obtain ⟨k, rfl, h0, h1⟩ := h
  show (decide (0 ≤ k) && decide (k ≤ 99)) = true
  rw [decide_eq_true h0, decide_eq_true (by omega)]
  rfl
theorem Cl.pl {x : D} (h : Cl x) : Pl x := by
  obtain ⟨k, rfl, h0, h1⟩ := h
  trivial
theorem bad_in {good r : List D} {x d : D} (hd : items d = some (good ++ x :: r)) (hl : (good ++ x :: r).length ≤ 40) (hg : ∀ y ∈ good, Cl y) (hx : isCol x = false) (px : Pl x) (hr : ∀ y ∈ r, Pl y) (S : Type) : m_check_row S [d, .int 40] = rse 1 [.int (good.length : Int)] :=
  check_bad S hd hl (fun y hy => (hg y hy).col) hx fun y hy => by
    rcases List.mem_append.mp hy with q | q
    · exact (hg y q).pl
    · rcases List.mem_cons.mp q with q | q
      · rw [q]
        exact px
      · exact hr y q
theorem norow_ok {cells : List Int} {ds : List D} (h : Bd 40 ds) (hc : cells.length ≤ 63) : Tk cells (m__law_no_row cells [.lst ds, .int 40]) Nr := by
  have l0 := h.1
  unfold m__law_no_row
  simp only [bnd_ret, bnd_bnd, lft_some, List.append_nil, items_lst]
  refine tk_bnd (take_ok (n := 4) (by decide) (by decide) hc) fun d hd => ?_
  obtain ⟨kk, rfl, k0, k1⟩ := hd
  rw [oEq_int, lft_some, bnd_ret, asB_bl, lft_some, bnd_ret]
  refine tk_ite (fun _ => ?_) fun _ => ?_
  · rw [mkL_ok (by decide), lft_some, bnd_ret]
    refine tk_bnd (pick_ok (by simp) (by decide) hc) fun d hd => ?_
    rw [mkL_ok (by show 2 < _; decide)]
    refine tk_ret ⟨d, 0, rfl, fun S => check_nosq S ?_⟩
    simp only [List.mem_cons, List.not_mem_nil, or_false] at hd
    rcases hd with rfl | rfl | rfl | rfl | rfl <;> rfl
  rw [oEq_int, lft_some, bnd_ret, asB_bl, lft_some, bnd_ret]
  refine tk_ite (fun _ => ?_) fun _ => ?_
  · have e1 : oAdd (.int 40) (.int 1) = some (.int 41) := rfl
    rw [e1, lft_some, bnd_ret, rg1_ok (by decide) (by decide), lft_some, bnd_ret, mkL_ok (by rw [rgD_len]; decide), lft_some, bnd_ret]
    have e2 : ∀ t ∈ rgD 0 (41 : Int).toNat, ∃ u, un1 t = some u ∧ Tk cells (bnd (lft (oIntOf u)) fun x42 => lft (oMod x42 (.int 3))) (fun _ => True) := fun t ht => by
      obtain ⟨i, _, rfl⟩ := List.mem_map.mp ht
      exact ⟨_, rfl, by rw [oIntOf_int, lft_some, bnd_ret, mod_pos (by decide)]; exact tk_ret trivial⟩
    refine tk_bnd (tk_lcAll e2) fun ys hy => ?_
    rw [mkL_ok (by show 2 < _; decide)]
    refine tk_ret ⟨.lst ys, 0, rfl, fun S => check_long S (ds := ys) rfl ?_⟩
    rw [hy.1, rgD_len]
    decide
  have e3 : oSub (.int 40) (.int 1) = some (.int 39) := rfl
  have e4 : oInt? (.int 39) = some (some 39) := rfl
  have e5 : oSlL (.lst ds) none (some 39) = some (ds.take 39) := by
    show some (cut ds none (some ((39 : Nat) : Int))) = _
    rw [cut_takeN]
  rw [e3, lft_some, bnd_ret, e4, lft_some, bnd_ret, e5, lft_some, bnd_ret]
  generalize hO : ds.take 39 = o
  have ho : Bd 39 o := by
    rw [← hO]
    exact ⟨by rw [List.length_take]; omega, fun x hx => h.2 x (List.mem_of_mem_take hx)⟩
  have l1 := ho.1
  rw [oLen_lst, lft_some, bnd_ret, oAdd_int, lft_some, bnd_ret]
  refine tk_bnd (take_ok (n := (o.length : Int) + 1) (by omega) (by omega) hc) fun d hd => ?_
  obtain ⟨at', rfl, a0, a1⟩ := hd
  obtain ⟨a, rfl⟩ := Int.eq_ofNat_of_zero_le a0
  have e6 : oNeg (.int 1) = some (.int (-1)) := rfl
  rw [e6, lft_some, bnd_ret, mkL_ok (by decide), Option.map_some, lft_some, bnd_ret, pow_20, lft_some, bnd_ret, mkL_ok (by decide), lft_some, bnd_ret]
  refine tk_bnd (pick_ok (by simp) (by decide) hc) fun x hx => ?_
  have cx : isCol x = false ∧ Pl x := by
    simp only [List.mem_cons, List.not_mem_nil, or_false] at hx
    rcases hx with rfl | rfl | rfl | rfl | rfl | rfl | rfl <;> exact ⟨by decide, trivial⟩
  rw [ins_ok (by omega) (by omega), lft_some, bnd_ret]
  have et : (o.take a).length = a := by rw [List.length_take]; omega
  have el : o.take a ++ [x] ++ o.drop a = o.take a ++ x :: o.drop a := by rw [List.append_assoc]; rfl
  have ln : (o.take a ++ x :: o.drop a).length ≤ 40 := by
    rw [List.length_append, List.length_cons, List.length_take, List.length_drop]
    omega
  have gt : ∀ y ∈ o.take a, Cl y := fun y hy => ho.2 y (List.mem_of_mem_take hy)
  have gd : ∀ y ∈ o.drop a, Pl y := fun y hy => (ho.2 y (List.mem_of_mem_drop hy)).pl
  rw [el]
  have last : ∀ d : D, items d = some (o.take a ++ x :: o.drop a) → Nr (.tup [d, .int (a : Int)]) := fun d hd => by
    refine ⟨d, a, rfl, fun S => ?_⟩
    have := bad_in hd ln gt cx.1 cx.2 gd S
    rw [et] at this
    exact this
  rw [oEq_int, lft_some, bnd_ret, asB_bl, lft_some, bnd_ret]
  refine tk_bnd (P := fun b => b = true → 0 < a) (tk_ite (fun _ => ?_) fun _ => tk_ret fun z => by cases z) fun b hb => tk_ite (fun e => ?_) fun _ => ?_
  · rw [oGt_int, lft_some, bnd_ret, asB_bl, lft_some]
    exact tk_ret fun z => by have := of_decide_eq_true z; omega
  · have e7 : oInt? (.int (a : Int)) = some (some (a : Int)) := rfl
    have e8 : oSl (.lst (o.take a ++ x :: o.drop a)) none (some (a : Int)) = some (.lst (o.take a)) := by
      show some (D.lst (cut _ none (some (a : Int)))) = _
      rw [cut_takeN, List.take_left' et]
    have e9 : oAdd (.lst (o.take a)) (.lst [.int 1]) = some (.lst (o.take a ++ [.int 1])) := by
      show (if (o.take a).length + 1 < tooLong then _ else _) = _
      rw [if_pos (by rw [et]; unfold tooLong; omega)]
    rw [e7, lft_some, bnd_ret, e8, lft_some, bnd_ret, mkL_ok (by decide), lft_some, bnd_ret, e9, lft_some, bnd_ret, oLen_lst, lft_some, bnd_ret, oLt_int, lft_some, bnd_ret, asB_bl, lft_some, bnd_ret]
    have el2 : (o.take a ++ [D.int 1]).length = a + 1 := by rw [List.length_append, et]; rfl
    refine tk_ite (fun e => ?_) fun _ => ?_
    · have q := of_decide_eq_true e
      rw [el2] at q
      have e10 : oAdd (.lst (o.take a ++ [.int 1])) (.lst [.bl false]) = some (.lst ((o.take a ++ [.int 1]) ++ [.bl false])) := by
        show (if (o.take a ++ [D.int 1]).length + 1 < tooLong then _ else _) = _
        rw [if_pos (by rw [el2]; unfold tooLong; omega)]
      rw [lft_some, bnd_ret, e10, lft_some, bnd_ret, tuple_ok (items_lst _), lft_some, bnd_ret, oAdd_int, lft_some, bnd_ret, mkL_ok (by show 2 < _; decide)]
      refine tk_ret ⟨.tup ((o.take a ++ [.int 1]) ++ [.bl false]), a + 1, rfl, fun S => ?_⟩
      have := bad_in (d := .tup ((o.take a ++ [.int 1]) ++ [.bl false])) (good := o.take a ++ [.int 1]) (x := .bl false) (r := []) rfl (by rw [List.length_append, el2]; show a + 1 + 1 ≤ 40; omega) (fun y hy => ?_) (by decide) trivial (fun y hy => nomatch hy) S
      · rw [el2] at this
        exact this
      · rcases List.mem_append.mp hy with q | q
        · exact gt y q
        · rw [List.mem_singleton.mp q]
          exact ⟨1, rfl, by decide, by decide⟩
    · rw [tuple_ok (items_lst _), lft_some, bnd_ret, mkL_ok (by show 2 < _; decide)]
      exact tk_ret (last _ rfl)
  · rw [mkL_ok (by show 2 < _; decide)]
    exact tk_ret (last _ rfl)
end G_spreadhues_k19_rows_struck_and_hidden

set_option Elab.async false
set_option linter.all false
set_option maxRecDepth 100000
set_option maxHeartbeats 2000000
namespace G_spreadhues_k19_rows_struck_and_hidden
open PySem PySem.Spec PyProof.Rows L2 Dm
theorem bnd_rseq {S α β : Type} {m : MS S α} {c : Nat} {fs : List D} (h : m = rse c fs) (k : α → MS S β) : bnd m k = rse c fs := by
  rw [h, bnd_rse]
theorem try_rse {S β : Type} {n c : Nat} {m : MS S β} {fs : List D} {hs : List (Nat × (List D → MS S β))} (h : m = rse c fs) : tryM n m hs = hsM n hs c fs := by
  rw [h]
  rfl
theorem hs_1 {S β : Type} (h1 h0 : List D → MS S β) (fs : List D) : hsM 2 [(1, h1), (0, h0)] 1 fs = nex (h1 fs) := rfl
theorem hs_0 {S β : Type} (h1 h0 : List D → MS S β) (fs : List D) : hsM 2 [(1, h1), (0, h0)] 0 fs = nex (h0 fs) := rfl
/-- what is refused by the row -/
theorem asked_row (S : Type) {k : Int} {a b c : D} {i : Nat} (h : (if decide (k = 0) = true then m_struck_row S [a] else if decide (k = 1) = true then m_hidden_places S [a, b] else if decide (k = 2) = true then m_is_hidden S [a, b] else m_least_equal_row S [a, c]) = rse 1 [.int (i : Int)]) : m__law_asked S [.int k, a, b, c] = ret (.tup [.str "row", .int (i : Int)]) := by
  unfold m__law_asked
  simp only [bnd_ret, bnd_bnd, lft_some, List.append_nil, oEq_int, asB_bl]
  rw [try_rse h, hs_1]
  have e : fld (fnZ 1) [D.int (i : Int)] "index" = some (.int (i : Int)) := by
    unfold fld fnZ
    rfl
  rw [e, lft_some, bnd_ret]
  rfl
theorem asked_col (S : Type) {a c : D} (h : m_least_equal_row S [a, c] = rse 0 [c]) (b : D) : m__law_asked S [.int 3, a, b, c] = ret (.tup [.str "colour", c]) := by
  unfold m__law_asked
  simp only [bnd_ret, bnd_bnd, lft_some, List.append_nil, oEq_int, asB_bl]
  rw [if_neg (by decide), if_neg (by decide), if_neg (by decide), try_rse h, hs_0]
  have e : fld (fnZ 0) [c] "colour" = some c := by
    unfold fld fnZ
    rfl
  rw [e, lft_some, bnd_ret]
  rfl
section
variable {b c : D} {i : Nat} (h : ∀ S : Type, m_check_row S [b, .int 40] = rse 1 [.int (i : Int)])
include h
theorem struck_no (S : Type) : m_struck_row S [b] = rse 1 [.int (i : Int)] := by
  unfold m_struck_row
  simp only [bnd_ret, bnd_bnd, lft_some, List.append_nil, h S, bnd_rse]
theorem hidden_no (S : Type) : m_hidden_places S [b, c] = rse 1 [.int (i : Int)] := by
  unfold m_hidden_places
  simp only [bnd_ret, bnd_bnd, lft_some, List.append_nil, h S, bnd_rse]
theorem ishidden_no (S : Type) : m_is_hidden S [b, c] = rse 1 [.int (i : Int)] := by
  unfold m_is_hidden
  simp only [bnd_ret, bnd_bnd, lft_some, List.append_nil, hidden_no h, bnd_rse]
theorem least_no (S : Type) : m_least_equal_row S [b, c] = rse 1 [.int (i : Int)] := by
  unfold m_least_equal_row
  simp only [bnd_ret, bnd_bnd, lft_some, List.append_nil, h S, bnd_rse]
variable {cs : List Int} (g : Cs cs)
include g
theorem hidden_no2 (S : Type) : m_hidden_places S [.lst (cs.map D.int), b] = rse 1 [.int (i : Int)] := by
  unfold m_hidden_places
  simp only [bnd_ret, bnd_bnd, lft_some, List.append_nil, g.check S (d := .lst (cs.map D.int)) rfl, h S, bnd_rse]
theorem ishidden_no2 (S : Type) : m_is_hidden S [.lst (cs.map D.int), b] = rse 1 [.int (i : Int)] := by
  unfold m_is_hidden
  simp only [bnd_ret, bnd_bnd, lft_some, List.append_nil, hidden_no2 h g, bnd_rse]
end
theorem least_col (S : Type) {cs : List Int} (g : Cs cs) {c : D} (hc : isCol c = false) (hp : Pl c) (hn : isN c = false) : m_least_equal_row S [.lst (cs.map D.int), c] = rse 0 [c] := by
  unfold m_least_equal_row m__check_first m_check_colour
  have e1 : oNis c .non = some (.bl true) := by
    show some (D.bl (!isN c)) = _
    rw [hn]
    rfl
  have e2 : okD_BadColour [c] = true := rfl
  simp only [bnd_ret, bnd_bnd, lft_some, List.append_nil, g.check S (d := .lst (cs.map D.int)) rfl, e1, asB_bl, if_true, colour_ok S hp, hc, tru_bl, Bool.not_false, e2, List.reverse_cons, List.reverse_nil, List.nil_append, bnd_rse]
theorem neq_row (i : Nat) : oNe (.tup [.str "row", .int (i : Int)]) (.tup [.str "row", .int (i : Int)]) = some (.bl false) := by
  refine oNe_of (b := true) ?_
  have s1 : PyData.strOk (Str.ofString "row") = true := by decide +kernel
  unfold eqD
  simp [s1, toPy, toPys, SeqAt.shaped, PyData.canLay0, PyData.canLayAll0, PyData.depth, PyData.depthAll, PyData.eqv, PyData.eqvAll]
theorem refusals_ok {cells : List Int} {cs ws : List Int} (h : Cs cs) (hw : Cs ws) (hc : cells.length ≤ 63) : Tk cells (m__law_refusals cells [.lst (cs.map D.int), .lst (ws.map D.int)]) (fun d => d = .bl true) := by
  have bd : ∀ {cs : List Int}, Cs cs → Bd 40 (cs.map D.int) := fun g => ⟨by rw [List.length_map]; exact g.1, fun x hx => by
    obtain ⟨c, hc, rfl⟩ := List.mem_map.mp hx
    exact ⟨c, rfl, (g.2 c hc).1, (g.2 c hc).2⟩⟩
  unfold m__law_refusals
  simp only [bnd_ret, bnd_bnd, lft_some, List.append_nil]
  refine tk_bnd (norow_ok (bd h) hc) fun d hd => ?_
  obtain ⟨b, i, rfl, hb⟩ := hd
  have e1 : un2 (.tup [b, .int (i : Int)]) = some (b, .int (i : Int)) := rfl
  rw [e1, lft_some, bnd_ret]
  refine tk_bnd (norow_ok (bd hw) hc) fun d hd => ?_
  obtain ⟨w, j, rfl, hb2⟩ := hd
  have e2 : un2 (.tup [w, .int (j : Int)]) = some (w, .int (j : Int)) := rfl
  have e6 : oNeg (.int 1) = some (.int (-1)) := rfl
  rw [e2, lft_some, bnd_ret, e6, lft_some, bnd_ret, mkL_ok (by decide), Option.map_some, lft_some, bnd_ret, pow_20, lft_some, bnd_ret, mkL_ok (by decide), Option.map_some, lft_some, bnd_ret, mkL_ok (by decide), lft_some, bnd_ret]
  refine tk_bnd (pick_ok (by simp) (by decide) hc) fun x hx => ?_
  have cx : isCol x = false ∧ Pl x ∧ isN x = false := by
    simp only [List.mem_cons, List.not_mem_nil, or_false] at hx
    rcases hx with rfl | rfl | rfl | rfl | rfl | rfl | rfl <;> exact ⟨by decide, trivial, rfl⟩
  have ex : eqD (.tup [.str "colour", x]) (.tup [.str "colour", x]) = some true := by
    simp only [List.mem_cons, List.not_mem_nil, or_false] at hx
    unfold eqD
    have s1 : PyData.strOk (Str.ofString "colour") = true := by decide +kernel
    have s2 : PyData.strOk (Str.ofString "1") = true := by decide +kernel
    rcases hx with rfl | rfl | rfl | rfl | rfl | rfl | rfl <;> simp [s1, s2, toPy, toPys, SeqAt.shaped, PyData.canLay0, PyData.canLayAll0, PyData.depth, PyData.depthAll, PyData.eqv, PyData.eqvAll]
  have a0 : m__law_asked Hd [.int 0, b, .non, .non] = ret (.tup [.str "row", .int (i : Int)]) := asked_row Hd (by rw [if_pos (by decide)]; exact struck_no hb Hd)
  have a3 : m__law_asked Hd [.int 3, b, .non, x] = ret (.tup [.str "row", .int (i : Int)]) := asked_row Hd (by rw [if_neg (by decide), if_neg (by decide), if_neg (by decide)]; exact least_no hb Hd)
  have a1 : m__law_asked Hd [.int 1, b, w, .non] = ret (.tup [.str "row", .int (i : Int)]) := asked_row Hd (by rw [if_neg (by decide), if_pos (by decide)]; exact hidden_no hb Hd)
  have a2 : m__law_asked Hd [.int 2, b, w, .non] = ret (.tup [.str "row", .int (i : Int)]) := asked_row Hd (by rw [if_neg (by decide), if_neg (by decide), if_pos (by decide)]; exact ishidden_no hb Hd)
  have b1 : m__law_asked Hd [.int 1, .lst (cs.map D.int), w, .non] = ret (.tup [.str "row", .int (j : Int)]) := asked_row Hd (by rw [if_neg (by decide), if_pos (by decide)]; exact hidden_no2 hb2 h Hd)
  have b2 : m__law_asked Hd [.int 2, .lst (cs.map D.int), w, .non] = ret (.tup [.str "row", .int (j : Int)]) := asked_row Hd (by rw [if_neg (by decide), if_neg (by decide), if_pos (by decide)]; exact ishidden_no2 hb2 h Hd)
  have c3 : m__law_asked Hd [.int 3, .lst (cs.map D.int), .non, x] = ret (.tup [.str "colour", x]) := asked_col Hd (least_col Hd h cx.1 cx.2.1 cx.2.2) .non
  have mk2 : ∀ p q : D, mkL [p, q] = some [p, q] := fun p q => mkL_ok (by show 2 < _; decide)
  have e7 : items (.tup [.int 1, .int 2]) = some [.int 1, .int 2] := rfl
  simp only [a0, a3, bnd_ret, mk2, Option.map_some, lft_some, neq_row, asB_bl, Bool.false_eq_true, if_false, e7]
  rw [forF_nx (un := un1) (t := .int 1) (b := ()) rfl, forF_nx (un := un1) (t := .int 2) (b := ()) rfl]
  · rw [show ∀ f : D → Unit → MS Hd (Fl Unit Unit), forF un1 f [] () = ret (Fr.nx ()) from fun f => rfl, bnd_ret, frD_nx, c3, bnd_ret, oEq_of ex, lft_some]
    exact tk_ret rfl
  · simp only [a2, b2, bnd_ret, mk2, Option.map_some, lft_some, neq_row, asB_bl, Bool.false_eq_true, if_false]
  · simp only [a1, b1, bnd_ret, mk2, Option.map_some, lft_some, neq_row, asB_bl, Bool.false_eq_true, if_false]
end G_spreadhues_k19_rows_struck_and_hidden

set_option Elab.async false
set_option linter.all false
set_option maxRecDepth 100000
set_option maxHeartbeats 2000000
namespace Dm
open PySem PySem.Spec PyProof.Rows L2
theorem tk_forU {τ : Type} {cells : List Int} {un : D → Option τ} {f : τ → Unit → MS Hd (Fl Unit Unit)} : ∀ {ds : List D}, (∀ d ∈ ds, ∃ t, un d = some t ∧ Tk cells (f t ()) (fun r => r = .nx ())) → Tk cells (forF un f ds ()) (fun r => r = .nx ())
  | [], _ => tk_ret rfl
  | d :: ds, h => by
    obtain ⟨t, e, ht⟩ := h d (by simp)
    have ih := tk_forU (ds := ds) fun d hd => h d (by simp [hd])
    unfold forF
    rw [e, lft_some, bnd_ret]
    refine tk_bnd ht fun r hr => ?_
    subst hr
    exact ih
theorem eqD_two (cs ws : List Int) : eqD (.tup [.lst (cs.map D.int), .lst (ws.map D.int)]) (.tup [.lst (cs.map D.int), .lst (ws.map D.int)]) = some true := by
  unfold eqD
  simp [toPy, toPys, toPys_ints, SeqAt.shaped, PyData.canLay0, PyData.canLayAll0, PyData.depth, PyData.depthAll, lay_ints, depth_ints, PyData.eqv, PyData.eqvAll, eqv_ints]
end Dm
namespace G_spreadhues_k19_rows_struck_and_hidden
open PySem PySem.Spec PyProof.Rows L2 Dm
theorem ints_of {n : Nat} : ∀ {ds : List D}, Bd n ds → ∃ cs : List Int, ds = cs.map D.int ∧ ∀ c ∈ cs, 0 ≤ c ∧ c < 100
  | [], _ => ⟨[], rfl, fun c hc => nomatch hc⟩
  | d :: ds, h => by
    obtain ⟨k, rfl, k0, k1⟩ := h.2 d (by simp)
    obtain ⟨cs, rfl, hcs⟩ := ints_of (n := n) (ds := ds) ⟨by have := h.1; rw [List.length_cons] at this; omega, fun x hx => h.2 x (by simp [hx])⟩
    refine ⟨k :: cs, rfl, fun c hc => ?_⟩
    rcases List.mem_cons.mp hc with q | q
    · rw [q]
      exact ⟨k0, k1⟩
    · exact hcs c q
theorem law_true (cells : List Int) (tot : Int) (hc : cells.length ≤ 63) : ∃ s, m_law cells ⟨0, 0, tot⟩ = .ok (.bl true) s := by
  have main : Tk cells (m_law cells) (fun d => d = .bl true) := by
    unfold m_law
    simp only [bnd_ret, bnd_bnd, lft_some, List.append_nil, rg1_ok (show (0 : Int) ≤ 3 by decide) (show (3 : Int) < 1000 by decide)]
    refine tk_bnd (tk_forU fun d hd => ⟨d, rfl, ?_⟩) fun r hr => by
      subst hr
      exact tk_ret rfl
    rw [mkL_ok (by decide), lft_some, bnd_ret]
    refine tk_bnd (pick_ok (by simp) (by decide) hc) fun x hx => ?_
    obtain ⟨t, rfl, t0, t1⟩ : ∃ t, x = .int t ∧ 0 < t ∧ t ≤ 100 := by
      simp only [List.mem_cons, List.not_mem_nil, or_false] at hx
      rcases hx with rfl | rfl | rfl | rfl | rfl <;> exact ⟨_, rfl, by decide, by decide⟩
    refine tk_bnd (take_ok (n := 8) (by decide) (by decide) hc) fun d hd => ?_
    obtain ⟨kk, rfl, k0, k1⟩ := hd
    rw [oEq_int, lft_some, bnd_ret, asB_bl, lft_some, bnd_ret]
    refine tk_bnd (P := fun d => ∃ n : Nat, d = .int (n : Int) ∧ n ≤ 40) (tk_ite (fun _ => tk_ret ⟨40, rfl, by decide⟩) fun _ => tk_ret ⟨9, rfl, by decide⟩) fun d hd => ?_
    obtain ⟨n, rfl, hn⟩ := hd
    refine tk_bnd (row_ok (by omega) t0 t1 hc) fun w hw => ?_
    rw [oEq_int, lft_some, bnd_ret, asB_bl, lft_some, bnd_ret]
    have yes : ∀ m : Int, 0 < m → m < 2 ^ 30 → Tk cells (bnd (m__law_take cells [.int m]) fun x => bnd (lft (oEq x (.int 0))) fun x => lft (asB x)) (fun _ => True) := fun m q0 q1 => tk_bnd (take_ok q0 q1 hc) fun d hd => by
      obtain ⟨kk, rfl, k0, k1⟩ := hd
      rw [oEq_int, lft_some, bnd_ret, asB_bl, lft_some]
      exact tk_ret trivial
    have yes' : ∀ {β : Type} {Q : β → Prop} (m : Int) (k : Bool → MS Hd β), 0 < m → m < 2 ^ 30 → (∀ b, Tk cells (k b) Q) → Tk cells (bnd (m__law_take cells [.int m]) fun x => bnd (lft (oEq x (.int 0))) fun x => bnd (lft (asB x)) k) Q := fun m k q0 q1 hk => tk_bnd (take_ok q0 q1 hc) fun d hd => by
      obtain ⟨kk, rfl, k0, k1⟩ := hd
      rw [oEq_int, lft_some, bnd_ret, asB_bl, lft_some, bnd_ret]
      exact hk _
    refine tk_bnd (tk_ite (fun _ => yes 2 (by decide) (by decide)) fun _ => tk_ret trivial) fun b _ => ?_
    refine tk_bnd (P := Rw 40) (tk_ite (fun _ => ?_) fun _ => tk_ret ?_) fun w' hw' => ?_
    · rw [rg1_ok (by decide) (by decide), lft_some, bnd_ret, mkL_ok (by rw [rgD_len]; decide), lft_some, bnd_ret]
      refine tk_bnd (tk_lcAll (P := Cl) fun d hd => ⟨d, rfl, tone_ok t0 t1 hc⟩) fun ys hy => tk_ret ⟨ys, rfl, ?_, hy.2⟩
      rw [hy.1, rgD_len]
      decide
    · obtain ⟨ds, rfl, q1, q2⟩ := hw
      exact ⟨ds, rfl, by omega, q2⟩
    obtain ⟨wd, rfl, w1, w2⟩ := hw'
    rw [items_lst, lft_some, bnd_ret, mkL_ok (by omega), lft_some, bnd_ret]
    refine tk_bnd (tk_lcSome (P := Cl) fun d hd => ⟨d, rfl, yes 2 (by decide) (by decide), tk_ret (w2 d hd)⟩) fun rd hrd => ?_
    have hr0 : Rw 40 (.lst rd) := ⟨rd, rfl, by omega, hrd.2⟩
    refine yes' 3 _ (by decide) (by decide) fun b => tk_bnd (P := Rw 40) (tk_ite (fun _ => tk_bnd (varied_ok ⟨by omega, hrd.2⟩ t0 t1 hc) fun a ha => tk_ret ha) fun _ => tk_ret hr0) fun r1 hr1 => ?_
    refine yes' 5 _ (by decide) (by decide) fun b => tk_bnd (P := Rw 40) (tk_ite (fun _ => tk_bnd (varied_ok ⟨w1, w2⟩ t0 t1 hc) fun a ha => tk_ret ha) fun _ => tk_ret hr1) fun r2 hr2 => ?_
    obtain ⟨r2d, rfl, g1, g2⟩ := hr2
    obtain ⟨cs, rfl, hcs⟩ := ints_of ⟨g1, g2⟩
    obtain ⟨ws, rfl, hws⟩ := ints_of ⟨w1, w2⟩
    rw [List.length_map] at g1 w1
    have hC : Cs cs := ⟨g1, hcs⟩
    have hW : Cs ws := ⟨w1, hws⟩
    have e1 : oAdd (.lst (cs.map D.int)) (.lst [.int 99]) = some (.lst ((cs ++ [99]).map D.int)) := by
      rw [List.map_append]
      exact if_pos (by rw [List.length_map]; show _ + 1 < 1000000; omega)
    obtain ⟨c0, hc0, e2⟩ : ∃ c, (0 ≤ c ∧ c < 100) ∧ oIx (.lst ((cs ++ [99]).map D.int)) (.int 0) = some (.int c) := by
      cases cs with
      | nil => exact ⟨99, by decide, oIx_nat (k := 0) rfl⟩
      | cons c r => exact ⟨c, hcs c (by simp), oIx_nat (k := 0) rfl⟩
    rw [mkL_ok (show ([.int 99] : List D).length < 1000000 by decide), lft_some, bnd_ret, e1, lft_some, bnd_ret, e2, lft_some, bnd_ret, mkL_ok (by show 4 < _; decide), lft_some, bnd_ret]
    refine tk_bnd (pick_ok (by simp) (by show 4 < 1000; decide) hc) fun x hx => ?_
    obtain ⟨k, rfl, hk⟩ : ∃ k, x = fo k ∧ ∀ c, k = some c → 0 ≤ c ∧ c < 100 := by
      simp only [List.mem_cons, List.not_mem_nil, or_false] at hx
      rcases hx with rfl | rfl | rfl | rfl
      · exact ⟨none, rfl, fun c h => by cases h⟩
      · exact ⟨some 0, rfl, fun c h => by cases h; decide⟩
      · exact ⟨some 1, rfl, fun c h => by cases h; decide⟩
      · exact ⟨some c0, rfl, fun c h => by cases h; exact hc0⟩
    have mk2 : ∀ p q : D, mkL [p, q] = some [p, q] := fun p q => mkL_ok (by show 2 < _; decide)
    simp only [items_lst, lft_some, bnd_ret, mk2, Option.map_some, right_ok Hd hC hW hk rfl rfl, right_ok Hd hW hC hk rfl rfl, tru_bl, Bool.not_true, Bool.false_eq_true, if_false]
    refine tk_bnd (refusals_ok hC hW hc) fun d hd => ?_
    subst hd
    simp only [lft_some, bnd_ret, tru_bl, Bool.not_true, Bool.false_eq_true, if_false, oNe_of (eqD_two cs ws), asB_bl]
    exact tk_ret rfl
  obtain ⟨d, s, e, _, hd⟩ := main ⟨0, 0, tot⟩ ⟨Int.le_refl _, by show (0 : Int) ≤ cells.length; omega, Int.le_refl _⟩
  subst hd
  exact ⟨s, e⟩
end G_spreadhues_k19_rows_struck_and_hidden

namespace G_spreadhues_k19_rows_struck_and_hidden
open PySem PySem.Spec PyProof.Rows L2 Dm
theorem all_mk {l : PySem.W.OpenLaw} {w : World} {K : PySem.W.Frag} {h : Heap} {mg : Str → Option Value} {fa f0 f1 f2 f3 f4 f5 f6 f7 f8 f9 f10 f11 f12 f13 f14 f15 f16 f17 f18 f19 f20 f21 f22 f23 f24 f25 f26 f27 f28 f29 f30 C0 C1 C2 I0 I1 q0 q5 q8 : Addr}
    (hm : ∀ (cells : List Int) (tot : Int), cells.length ≤ 63 → ∃ s, m_law cells ⟨0, 0, tot⟩ = .ok (.bl true) s) (X : K.In h) (G : h.Ns mainGlobals mg) (hfa : mg "law" = some (.ref fa))
    {od0 an0 : Option Addr} {sl0 : Array (Option Value)} {oc0 kV0 dc0 pm0 cd0 ct0 : Value}
    {qc0 : Value} {qd0 : Option Addr} {qn0 : Nat} {qs0 : Array (Option Value)}
    {od1 an1 : Option Addr} {sl1 : Array (Option Value)} {oc1 kV1 dc1 pm1 cd1 ct1 : Value}
    {od2 an2 : Option Addr} {sl2 : Array (Option Value)} {oc2 kV2 dc2 pm2 cd2 ct2 : Value}
    {od3 an3 : Option Addr} {sl3 : Array (Option Value)} {oc3 kV3 dc3 pm3 cd3 ct3 : Value}
    {od4 an4 : Option Addr} {sl4 : Array (Option Value)} {oc4 kV4 dc4 pm4 cd4 ct4 : Value}
    {od5 an5 : Option Addr} {sl5 : Array (Option Value)} {oc5 kV5 dc5 pm5 cd5 ct5 : Value}
    {t5_0 : Tok}
    {qc5 : Value} {qd5 : Option Addr} {qn5 : Nat} {qs5 : Array (Option Value)}
    {od6 an6 : Option Addr} {sl6 : Array (Option Value)} {oc6 kV6 dc6 pm6 cd6 ct6 : Value}
    {od7 an7 : Option Addr} {sl7 : Array (Option Value)} {oc7 kV7 dc7 pm7 cd7 ct7 : Value}
    {od8 an8 : Option Addr} {sl8 : Array (Option Value)} {oc8 kV8 dc8 pm8 cd8 ct8 : Value}
    {qc8 : Value} {qd8 : Option Addr} {qn8 : Nat} {qs8 : Array (Option Value)}
    {od9 an9 : Option Addr} {sl9 : Array (Option Value)} {oc9 kV9 dc9 pm9 cd9 ct9 : Value}
    {od10 an10 : Option Addr} {sl10 : Array (Option Value)} {oc10 kV10 dc10 pm10 cd10 ct10 : Value}
    {od11 an11 : Option Addr} {sl11 : Array (Option Value)} {oc11 kV11 dc11 pm11 cd11 ct11 : Value}
    {od12 an12 : Option Addr} {sl12 : Array (Option Value)} {oc12 kV12 dc12 pm12 cd12 ct12 : Value}
    {od13 an13 : Option Addr} {sl13 : Array (Option Value)} {oc13 kV13 dc13 pm13 cd13 ct13 : Value}
    {od14 an14 : Option Addr} {sl14 : Array (Option Value)} {oc14 kV14 dc14 pm14 cd14 ct14 : Value}
    {od15 an15 : Option Addr} {sl15 : Array (Option Value)} {oc15 kV15 dc15 pm15 cd15 ct15 : Value}
    {od16 an16 : Option Addr} {sl16 : Array (Option Value)} {oc16 kV16 dc16 pm16 cd16 ct16 : Value}
    {od17 an17 : Option Addr} {sl17 : Array (Option Value)} {oc17 kV17 dc17 pm17 cd17 ct17 : Value}
    {od18 an18 : Option Addr} {sl18 : Array (Option Value)} {oc18 kV18 dc18 pm18 cd18 ct18 : Value}
    {od19 an19 : Option Addr} {sl19 : Array (Option Value)} {oc19 kV19 dc19 pm19 cd19 ct19 : Value}
    {od20 an20 : Option Addr} {sl20 : Array (Option Value)} {oc20 kV20 dc20 pm20 cd20 ct20 : Value}
    {od21 an21 : Option Addr} {sl21 : Array (Option Value)} {oc21 kV21 dc21 pm21 cd21 ct21 : Value}
    {od22 an22 : Option Addr} {sl22 : Array (Option Value)} {oc22 kV22 dc22 pm22 cd22 ct22 : Value}
    {od23 an23 : Option Addr} {sl23 : Array (Option Value)} {oc23 kV23 dc23 pm23 cd23 ct23 : Value}
    {od24 an24 : Option Addr} {sl24 : Array (Option Value)} {oc24 kV24 dc24 pm24 cd24 ct24 : Value}
    {od25 an25 : Option Addr} {sl25 : Array (Option Value)} {oc25 kV25 dc25 pm25 cd25 ct25 : Value}
    {od26 an26 : Option Addr} {sl26 : Array (Option Value)} {oc26 kV26 dc26 pm26 cd26 ct26 : Value}
    {od27 an27 : Option Addr} {sl27 : Array (Option Value)} {oc27 kV27 dc27 pm27 cd27 ct27 : Value}
    {od28 an28 : Option Addr} {sl28 : Array (Option Value)} {oc28 kV28 dc28 pm28 cd28 ct28 : Value}
    {od29 an29 : Option Addr} {sl29 : Array (Option Value)} {oc29 kV29 dc29 pm29 cd29 ct29 : Value}
    {od30 an30 : Option Addr} {sl30 : Array (Option Value)} {oc30 kV30 dc30 pm30 cd30 ct30 : Value}
    {nmC0 qnC0 : Str} {N0 : Addr} {bs0 bm0 : List Value} {sn0 : List Str} {sub0 : List Value} {ab0 : Bool} {col0 : Option Bool} {dd0 : Option Addr} {m00 m10 m20 m30 m50 : Option Value}
    {odI0 anI0 : Option Addr} {slI0 : Array (Option Value)} {ocI0 kVI0 dcI0 pmI0 cdI0 ctI0 : Value}
    {nmC1 qnC1 : Str} {N1 : Addr} {bs1 bm1 : List Value} {sn1 : List Str} {sub1 : List Value} {ab1 : Bool} {col1 : Option Bool} {dd1 : Option Addr} {m01 m11 m21 m31 m51 : Option Value}
    {odI1 anI1 : Option Addr} {slI1 : Array (Option Value)} {ocI1 kVI1 dcI1 pmI1 cdI1 ctI1 : Value}
    {ct_MOST_COLOUR : Tok}
    {ct_MOST_ROW : Tok}
    (a0 : PySem.W.nsIn K mainGlobals "is_whole" = some (some (.ref f0)))
    (l0 : K.lookup f0 = some ⟨oc0, od0, .func (PySem.W.fnOf "is_whole" "is_whole" (defArgs s_is_whole) (defBody s_is_whole) (defScope s_is_whole) (.ref q0) kV0 dc0 pm0 an0 cd0 ct0), sl0⟩)
    (c0 : PySem.W.codeIn K cd0 "is_whole" = true)
    (k0 : PySem.W.keepIn K (.ref f0) = true)
    (q0l : K.lookup q0 = some ⟨qc0, qd0, .seq #[.none, .none] qn0, qs0⟩)
    (a1 : PySem.W.nsIn K mainGlobals "is_sequence" = some (some (.ref f1)))
    (l1 : K.lookup f1 = some ⟨oc1, od1, .func (PySem.W.fnOf "is_sequence" "is_sequence" (defArgs s_is_sequence) (defBody s_is_sequence) (defScope s_is_sequence) .none kV1 dc1 pm1 an1 cd1 ct1), sl1⟩)
    (c1 : PySem.W.codeIn K cd1 "is_sequence" = true)
    (k1 : PySem.W.keepIn K (.ref f1) = true)
    (a2 : PySem.W.nsIn K mainGlobals "is_colour" = some (some (.ref f2)))
    (l2 : K.lookup f2 = some ⟨oc2, od2, .func (PySem.W.fnOf "is_colour" "is_colour" (defArgs s_is_colour) (defBody s_is_colour) (defScope s_is_colour) .none kV2 dc2 pm2 an2 cd2 ct2), sl2⟩)
    (c2 : PySem.W.codeIn K cd2 "is_colour" = true)
    (k2 : PySem.W.keepIn K (.ref f2) = true)
    (a3 : PySem.W.nsIn K mainGlobals "wrong_colour" = some (some (.ref f3)))
    (l3 : K.lookup f3 = some ⟨oc3, od3, .func (PySem.W.fnOf "wrong_colour" "wrong_colour" (defArgs s_wrong_colour) (defBody s_wrong_colour) (defScope s_wrong_colour) .none kV3 dc3 pm3 an3 cd3 ct3), sl3⟩)
    (c3 : PySem.W.codeIn K cd3 "wrong_colour" = true)
    (k3 : PySem.W.keepIn K (.ref f3) = true)
    (a4 : PySem.W.nsIn K mainGlobals "check_colour" = some (some (.ref f4)))
    (l4 : K.lookup f4 = some ⟨oc4, od4, .func (PySem.W.fnOf "check_colour" "check_colour" (defArgs s_check_colour) (defBody s_check_colour) (defScope s_check_colour) .none kV4 dc4 pm4 an4 cd4 ct4), sl4⟩)
    (c4 : PySem.W.codeIn K cd4 "check_colour" = true)
    (k4 : PySem.W.keepIn K (.ref f4) = true)
    (a5 : PySem.W.nsIn K mainGlobals "check_row" = some (some (.ref f5)))
    (l5 : K.lookup f5 = some ⟨oc5, od5, .func (PySem.W.fnOf "check_row" "check_row" (defArgs s_check_row) (defBody s_check_row) (defScope s_check_row) (.ref q5) kV5 dc5 pm5 an5 cd5 ct5), sl5⟩)
    (c5 : PySem.W.codeIn K cd5 "check_row" = true)
    (k5 : PySem.W.keepIn K (.ref f5) = true)
    (q5l : K.lookup q5 = some ⟨qc5, qd5, .seq #[.int 60 t5_0] qn5, qs5⟩)
    (a6 : PySem.W.nsIn K mainGlobals "struck_row" = some (some (.ref f6)))
    (l6 : K.lookup f6 = some ⟨oc6, od6, .func (PySem.W.fnOf "struck_row" "struck_row" (defArgs s_struck_row) (defBody s_struck_row) (defScope s_struck_row) .none kV6 dc6 pm6 an6 cd6 ct6), sl6⟩)
    (c6 : PySem.W.codeIn K cd6 "struck_row" = true)
    (k6 : PySem.W.keepIn K (.ref f6) = true)
    (a7 : PySem.W.nsIn K mainGlobals "strike" = some (some (.ref f7)))
    (l7 : K.lookup f7 = some ⟨oc7, od7, .func (PySem.W.fnOf "strike" "strike" (defArgs s_strike) (defBody s_strike) (defScope s_strike) .none kV7 dc7 pm7 an7 cd7 ct7), sl7⟩)
    (c7 : PySem.W.codeIn K cd7 "strike" = true)
    (k7 : PySem.W.keepIn K (.ref f7) = true)
    (a8 : PySem.W.nsIn K mainGlobals "least_equal_row" = some (some (.ref f8)))
    (l8 : K.lookup f8 = some ⟨oc8, od8, .func (PySem.W.fnOf "least_equal_row" "least_equal_row" (defArgs s_least_equal_row) (defBody s_least_equal_row) (defScope s_least_equal_row) (.ref q8) kV8 dc8 pm8 an8 cd8 ct8), sl8⟩)
    (c8 : PySem.W.codeIn K cd8 "least_equal_row" = true)
    (k8 : PySem.W.keepIn K (.ref f8) = true)
    (q8l : K.lookup q8 = some ⟨qc8, qd8, .seq #[.none] qn8, qs8⟩)
    (a9 : PySem.W.nsIn K mainGlobals "_check_first" = some (some (.ref f9)))
    (l9 : K.lookup f9 = some ⟨oc9, od9, .func (PySem.W.fnOf "_check_first" "_check_first" (defArgs s__check_first) (defBody s__check_first) (defScope s__check_first) .none kV9 dc9 pm9 an9 cd9 ct9), sl9⟩)
    (c9 : PySem.W.codeIn K cd9 "_check_first" = true)
    (k9 : PySem.W.keepIn K (.ref f9) = true)
    (a10 : PySem.W.nsIn K mainGlobals "_least_equal" = some (some (.ref f10)))
    (l10 : K.lookup f10 = some ⟨oc10, od10, .func (PySem.W.fnOf "_least_equal" "_least_equal" (defArgs s__least_equal) (defBody s__least_equal) (defScope s__least_equal) .none kV10 dc10 pm10 an10 cd10 ct10), sl10⟩)
    (c10 : PySem.W.codeIn K cd10 "_least_equal" = true)
    (k10 : PySem.W.keepIn K (.ref f10) = true)
    (a11 : PySem.W.nsIn K mainGlobals "hidden_places" = some (some (.ref f11)))
    (l11 : K.lookup f11 = some ⟨oc11, od11, .func (PySem.W.fnOf "hidden_places" "hidden_places" (defArgs s_hidden_places) (defBody s_hidden_places) (defScope s_hidden_places) .none kV11 dc11 pm11 an11 cd11 ct11), sl11⟩)
    (c11 : PySem.W.codeIn K cd11 "hidden_places" = true)
    (k11 : PySem.W.keepIn K (.ref f11) = true)
    (a12 : PySem.W.nsIn K mainGlobals "find_places" = some (some (.ref f12)))
    (l12 : K.lookup f12 = some ⟨oc12, od12, .func (PySem.W.fnOf "find_places" "find_places" (defArgs s_find_places) (defBody s_find_places) (defScope s_find_places) .none kV12 dc12 pm12 an12 cd12 ct12), sl12⟩)
    (c12 : PySem.W.codeIn K cd12 "find_places" = true)
    (k12 : PySem.W.keepIn K (.ref f12) = true)
    (a13 : PySem.W.nsIn K mainGlobals "is_hidden" = some (some (.ref f13)))
    (l13 : K.lookup f13 = some ⟨oc13, od13, .func (PySem.W.fnOf "is_hidden" "is_hidden" (defArgs s_is_hidden) (defBody s_is_hidden) (defScope s_is_hidden) .none kV13 dc13 pm13 an13 cd13 ct13), sl13⟩)
    (c13 : PySem.W.codeIn K cd13 "is_hidden" = true)
    (k13 : PySem.W.keepIn K (.ref f13) = true)
    (a14 : PySem.W.nsIn K mainGlobals "_law_hand" = some (some (.ref f14)))
    (l14 : K.lookup f14 = some ⟨oc14, od14, .func (PySem.W.fnOf "_law_hand" "_law_hand" (defArgs s__law_hand) (defBody s__law_hand) (defScope s__law_hand) .none kV14 dc14 pm14 an14 cd14 ct14), sl14⟩)
    (c14 : PySem.W.codeIn K cd14 "_law_hand" = true)
    (k14 : PySem.W.keepIn K (.ref f14) = true)
    (a15 : PySem.W.nsIn K mainGlobals "_law_mixed" = some (some (.ref f15)))
    (l15 : K.lookup f15 = some ⟨oc15, od15, .func (PySem.W.fnOf "_law_mixed" "_law_mixed" (defArgs s__law_mixed) (defBody s__law_mixed) (defScope s__law_mixed) .none kV15 dc15 pm15 an15 cd15 ct15), sl15⟩)
    (c15 : PySem.W.codeIn K cd15 "_law_mixed" = true)
    (k15 : PySem.W.keepIn K (.ref f15) = true)
    (a16 : PySem.W.nsIn K mainGlobals "_law_take" = some (some (.ref f16)))
    (l16 : K.lookup f16 = some ⟨oc16, od16, .func (PySem.W.fnOf "_law_take" "_law_take" (defArgs s__law_take) (defBody s__law_take) (defScope s__law_take) .none kV16 dc16 pm16 an16 cd16 ct16), sl16⟩)
    (c16 : PySem.W.codeIn K cd16 "_law_take" = true)
    (k16 : PySem.W.keepIn K (.ref f16) = true)
    (a17 : PySem.W.nsIn K mainGlobals "_law_struck" = some (some (.ref f17)))
    (l17 : K.lookup f17 = some ⟨oc17, od17, .func (PySem.W.fnOf "_law_struck" "_law_struck" (defArgs s__law_struck) (defBody s__law_struck) (defScope s__law_struck) .none kV17 dc17 pm17 an17 cd17 ct17), sl17⟩)
    (c17 : PySem.W.codeIn K cd17 "_law_struck" = true)
    (k17 : PySem.W.keepIn K (.ref f17) = true)
    (a18 : PySem.W.nsIn K mainGlobals "_law_tuples" = some (some (.ref f18)))
    (l18 : K.lookup f18 = some ⟨oc18, od18, .func (PySem.W.fnOf "_law_tuples" "_law_tuples" (defArgs s__law_tuples) (defBody s__law_tuples) (defScope s__law_tuples) .none kV18 dc18 pm18 an18 cd18 ct18), sl18⟩)
    (c18 : PySem.W.codeIn K cd18 "_law_tuples" = true)
    (k18 : PySem.W.keepIn K (.ref f18) = true)
    (a19 : PySem.W.nsIn K mainGlobals "_law_pick" = some (some (.ref f19)))
    (l19 : K.lookup f19 = some ⟨oc19, od19, .func (PySem.W.fnOf "_law_pick" "_law_pick" (defArgs s__law_pick) (defBody s__law_pick) (defScope s__law_pick) .none kV19 dc19 pm19 an19 cd19 ct19), sl19⟩)
    (c19 : PySem.W.codeIn K cd19 "_law_pick" = true)
    (k19 : PySem.W.keepIn K (.ref f19) = true)
    (a20 : PySem.W.nsIn K mainGlobals "_law_says" = some (some (.ref f20)))
    (l20 : K.lookup f20 = some ⟨oc20, od20, .func (PySem.W.fnOf "_law_says" "_law_says" (defArgs s__law_says) (defBody s__law_says) (defScope s__law_says) .none kV20 dc20 pm20 an20 cd20 ct20), sl20⟩)
    (c20 : PySem.W.codeIn K cd20 "_law_says" = true)
    (k20 : PySem.W.keepIn K (.ref f20) = true)
    (a21 : PySem.W.nsIn K mainGlobals "_law_tone" = some (some (.ref f21)))
    (l21 : K.lookup f21 = some ⟨oc21, od21, .func (PySem.W.fnOf "_law_tone" "_law_tone" (defArgs s__law_tone) (defBody s__law_tone) (defScope s__law_tone) .none kV21 dc21 pm21 an21 cd21 ct21), sl21⟩)
    (c21 : PySem.W.codeIn K cd21 "_law_tone" = true)
    (k21 : PySem.W.keepIn K (.ref f21) = true)
    (a22 : PySem.W.nsIn K mainGlobals "_law_row" = some (some (.ref f22)))
    (l22 : K.lookup f22 = some ⟨oc22, od22, .func (PySem.W.fnOf "_law_row" "_law_row" (defArgs s__law_row) (defBody s__law_row) (defScope s__law_row) .none kV22 dc22 pm22 an22 cd22 ct22), sl22⟩)
    (c22 : PySem.W.codeIn K cd22 "_law_row" = true)
    (k22 : PySem.W.keepIn K (.ref f22) = true)
    (a23 : PySem.W.nsIn K mainGlobals "_law_varied" = some (some (.ref f23)))
    (l23 : K.lookup f23 = some ⟨oc23, od23, .func (PySem.W.fnOf "_law_varied" "_law_varied" (defArgs s__law_varied) (defBody s__law_varied) (defScope s__law_varied) .none kV23 dc23 pm23 an23 cd23 ct23), sl23⟩)
    (c23 : PySem.W.codeIn K cd23 "_law_varied" = true)
    (k23 : PySem.W.keepIn K (.ref f23) = true)
    (a24 : PySem.W.nsIn K mainGlobals "_law_strip" = some (some (.ref f24)))
    (l24 : K.lookup f24 = some ⟨oc24, od24, .func (PySem.W.fnOf "_law_strip" "_law_strip" (defArgs s__law_strip) (defBody s__law_strip) (defScope s__law_strip) .none kV24 dc24 pm24 an24 cd24 ct24), sl24⟩)
    (c24 : PySem.W.codeIn K cd24 "_law_strip" = true)
    (k24 : PySem.W.keepIn K (.ref f24) = true)
    (a25 : PySem.W.nsIn K mainGlobals "_law_no_row" = some (some (.ref f25)))
    (l25 : K.lookup f25 = some ⟨oc25, od25, .func (PySem.W.fnOf "_law_no_row" "_law_no_row" (defArgs s__law_no_row) (defBody s__law_no_row) (defScope s__law_no_row) .none kV25 dc25 pm25 an25 cd25 ct25), sl25⟩)
    (c25 : PySem.W.codeIn K cd25 "_law_no_row" = true)
    (k25 : PySem.W.keepIn K (.ref f25) = true)
    (a26 : PySem.W.nsIn K mainGlobals "_law_places" = some (some (.ref f26)))
    (l26 : K.lookup f26 = some ⟨oc26, od26, .func (PySem.W.fnOf "_law_places" "_law_places" (defArgs s__law_places) (defBody s__law_places) (defScope s__law_places) .none kV26 dc26 pm26 an26 cd26 ct26), sl26⟩)
    (c26 : PySem.W.codeIn K cd26 "_law_places" = true)
    (k26 : PySem.W.keepIn K (.ref f26) = true)
    (a27 : PySem.W.nsIn K mainGlobals "_law_asked" = some (some (.ref f27)))
    (l27 : K.lookup f27 = some ⟨oc27, od27, .func (PySem.W.fnOf "_law_asked" "_law_asked" (defArgs s__law_asked) (defBody s__law_asked) (defScope s__law_asked) .none kV27 dc27 pm27 an27 cd27 ct27), sl27⟩)
    (c27 : PySem.W.codeIn K cd27 "_law_asked" = true)
    (k27 : PySem.W.keepIn K (.ref f27) = true)
    (a28 : PySem.W.nsIn K mainGlobals "_law_refusals" = some (some (.ref f28)))
    (l28 : K.lookup f28 = some ⟨oc28, od28, .func (PySem.W.fnOf "_law_refusals" "_law_refusals" (defArgs s__law_refusals) (defBody s__law_refusals) (defScope s__law_refusals) .none kV28 dc28 pm28 an28 cd28 ct28), sl28⟩)
    (c28 : PySem.W.codeIn K cd28 "_law_refusals" = true)
    (k28 : PySem.W.keepIn K (.ref f28) = true)
    (a29 : PySem.W.nsIn K mainGlobals "_law_right" = some (some (.ref f29)))
    (l29 : K.lookup f29 = some ⟨oc29, od29, .func (PySem.W.fnOf "_law_right" "_law_right" (defArgs s__law_right) (defBody s__law_right) (defScope s__law_right) .none kV29 dc29 pm29 an29 cd29 ct29), sl29⟩)
    (c29 : PySem.W.codeIn K cd29 "_law_right" = true)
    (k29 : PySem.W.keepIn K (.ref f29) = true)
    (a30 : PySem.W.nsIn K mainGlobals "law" = some (some (.ref f30)))
    (l30 : K.lookup f30 = some ⟨oc30, od30, .func (PySem.W.fnOf "law" "law" (defArgs s_law) (defBody s_law) (defScope s_law) .none kV30 dc30 pm30 an30 cd30 ct30), sl30⟩)
    (c30 : PySem.W.codeIn K cd30 "law" = true)
    (k30 : PySem.W.keepIn K (.ref f30) = true)
    (C0a : PySem.W.nsIn K mainGlobals "HueError" = some (some (.ref C0)))
    (C1a : PySem.W.nsIn K mainGlobals "BadColour" = some (some (.ref C1)))
    (C2a : PySem.W.nsIn K mainGlobals "BadRow" = some (some (.ref C2)))
    (x0 : K.lookup C1 = some (excClassObj nmC0 qnC0 C1 N0 bs0 bm0 true sn0 sub0 ab0 col0 dd0 m00 m10 m20 m30 m50 "ValueError.__new__"))
    (r0 : PySem.HandSPX.refsVE bm0 = true)
    (sa0 : PySem.W.findIn K (.ref C1) "__setattr__" = some (some (.builtin "object.__setattr__")))
    (eC0 : PySem.W.subIn K (.ref C1) (.type "BaseException") = some true)
    (tC0 : PySem.W.typeIn K (.ref C1) = some (.type "type"))
    (is0 : PySem.W.isClsIn K C1 = true)
    (kC0 : PySem.W.keepIn K (.ref C1) = true)
    (ga0 : PySem.W.findIn K (.ref C1) "__getattribute__" = some (some (.builtin "BaseException.__getattribute__")))
    (gg0 : PySem.W.findIn K (.ref C1) "__getattr__" = some none)
    (hd0 : PySem.W.hasDictIn K C1 = true)
    (i0 : PySem.W.findIn K (.ref C1) "__init__" = some (some (.ref I0)))
    (t0 : PySem.W.typeIn K (.ref I0) = some (.type "function"))
    (lI0 : K.lookup I0 = some ⟨ocI0, odI0, .func (PySem.W.fnOf "__init__" "BadColour.__init__" (defArgs s_BadColour) (defBody s_BadColour) (defScope s_BadColour) .none kVI0 dcI0 pmI0 anI0 cdI0 ctI0), slI0⟩)
    (cI0 : PySem.W.codeIn K cdI0 "BadColour.__init__" = true)
    (kI0 : PySem.W.keepIn K (.ref I0) = true)
    (n0_colour : PySem.W.findIn K (.ref C1) "colour" = some none)
    (x1 : K.lookup C2 = some (excClassObj nmC1 qnC1 C2 N1 bs1 bm1 true sn1 sub1 ab1 col1 dd1 m01 m11 m21 m31 m51 "ValueError.__new__"))
    (r1 : PySem.HandSPX.refsVE bm1 = true)
    (sa1 : PySem.W.findIn K (.ref C2) "__setattr__" = some (some (.builtin "object.__setattr__")))
    (eC1 : PySem.W.subIn K (.ref C2) (.type "BaseException") = some true)
    (tC1 : PySem.W.typeIn K (.ref C2) = some (.type "type"))
    (is1 : PySem.W.isClsIn K C2 = true)
    (kC1 : PySem.W.keepIn K (.ref C2) = true)
    (ga1 : PySem.W.findIn K (.ref C2) "__getattribute__" = some (some (.builtin "BaseException.__getattribute__")))
    (gg1 : PySem.W.findIn K (.ref C2) "__getattr__" = some none)
    (hd1 : PySem.W.hasDictIn K C2 = true)
    (i1 : PySem.W.findIn K (.ref C2) "__init__" = some (some (.ref I1)))
    (t1 : PySem.W.typeIn K (.ref I1) = some (.type "function"))
    (lI1 : K.lookup I1 = some ⟨ocI1, odI1, .func (PySem.W.fnOf "__init__" "BadRow.__init__" (defArgs s_BadRow) (defBody s_BadRow) (defScope s_BadRow) .none kVI1 dcI1 pmI1 anI1 cdI1 ctI1), slI1⟩)
    (cI1 : PySem.W.codeIn K cdI1 "BadRow.__init__" = true)
    (kI1 : PySem.W.keepIn K (.ref I1) = true)
    (n1_index : PySem.W.findIn K (.ref C2) "index" = some none)
    (Bsp : PySem.W.specialIn K (.ref C0) "__getattribute__" = some (some (.builtin "type.__getattribute__")))
    (Brd : PySem.W.readsIn K C0 (.type "type") = true)
    (BvI : PySem.W.findCls K (.ref C0) (.type "type") "__init__" = some (.val (.builtin "ValueError.__init__")))
    (e0_0 : PySem.W.subIn K (.ref C1) (.ref C1) = some true)
    (e0_1 : PySem.W.subIn K (.ref C1) (.ref C2) = some false)
    (e1_0 : PySem.W.subIn K (.ref C2) (.ref C1) = some false)
    (e1_1 : PySem.W.subIn K (.ref C2) (.ref C2) = some true)
    (z_abs : PySem.W.nsIn K mainGlobals "abs" = some none)
    (z_bool : PySem.W.nsIn K mainGlobals "bool" = some none)
    (z_enumerate : PySem.W.nsIn K mainGlobals "enumerate" = some none)
    (z_int : PySem.W.nsIn K mainGlobals "int" = some none)
    (z_isinstance : PySem.W.nsIn K mainGlobals "isinstance" = some none)
    (z_len : PySem.W.nsIn K mainGlobals "len" = some none)
    (z_list : PySem.W.nsIn K mainGlobals "list" = some none)
    (z_min : PySem.W.nsIn K mainGlobals "min" = some none)
    (z_range : PySem.W.nsIn K mainGlobals "range" = some none)
    (z_tuple : PySem.W.nsIn K mainGlobals "tuple" = some none)
    (v_MOST_COLOUR : PySem.W.nsIn K mainGlobals "MOST_COLOUR" = some (some (.int 99 ct_MOST_COLOUR)))
    (v_MOST_ROW : PySem.W.nsIn K mainGlobals "MOST_ROW" = some (some (.int 40 ct_MOST_ROW)))
    : ∃ fd : FuncData, (∀ (s : Shared) (v : Value), BindsTo s fd ⟨[v], []⟩ [("_law_script", v)]) ∧ ∀ base : Heap, K.In base → base.Ns mainGlobals mg → FnOk l.prog w K mg base (L2.CX l.prog w) 9 fa fd ["_law_script"] (spLaw K) := by
  have e := hfa.symm.trans (PySem.W.mg_of X G a30)
  cases e
  let A : Ad := { a_is_whole := f0, d_is_whole := (PySem.W.fnOf "is_whole" "is_whole" (defArgs s_is_whole) (defBody s_is_whole) (defScope s_is_whole) (.ref q0) kV0 dc0 pm0 an0 cd0 ct0), a_is_sequence := f1, d_is_sequence := (PySem.W.fnOf "is_sequence" "is_sequence" (defArgs s_is_sequence) (defBody s_is_sequence) (defScope s_is_sequence) .none kV1 dc1 pm1 an1 cd1 ct1), a_is_colour := f2, d_is_colour := (PySem.W.fnOf "is_colour" "is_colour" (defArgs s_is_colour) (defBody s_is_colour) (defScope s_is_colour) .none kV2 dc2 pm2 an2 cd2 ct2), a_wrong_colour := f3, d_wrong_colour := (PySem.W.fnOf "wrong_colour" "wrong_colour" (defArgs s_wrong_colour) (defBody s_wrong_colour) (defScope s_wrong_colour) .none kV3 dc3 pm3 an3 cd3 ct3), a_check_colour := f4, d_check_colour := (PySem.W.fnOf "check_colour" "check_colour" (defArgs s_check_colour) (defBody s_check_colour) (defScope s_check_colour) .none kV4 dc4 pm4 an4 cd4 ct4), a_check_row := f5, d_check_row := (PySem.W.fnOf "check_row" "check_row" (defArgs s_check_row) (defBody s_check_row) (defScope s_check_row) (.ref q5) kV5 dc5 pm5 an5 cd5 ct5), a_struck_row := f6, d_struck_row := (PySem.W.fnOf "struck_row" "struck_row" (defArgs s_struck_row) (defBody s_struck_row) (defScope s_struck_row) .none kV6 dc6 pm6 an6 cd6 ct6), a_strike := f7, d_strike := (PySem.W.fnOf "strike" "strike" (defArgs s_strike) (defBody s_strike) (defScope s_strike) .none kV7 dc7 pm7 an7 cd7 ct7), a_least_equal_row := f8, d_least_equal_row := (PySem.W.fnOf "least_equal_row" "least_equal_row" (defArgs s_least_equal_row) (defBody s_least_equal_row) (defScope s_least_equal_row) (.ref q8) kV8 dc8 pm8 an8 cd8 ct8), a__check_first := f9, d__check_first := (PySem.W.fnOf "_check_first" "_check_first" (defArgs s__check_first) (defBody s__check_first) (defScope s__check_first) .none kV9 dc9 pm9 an9 cd9 ct9), a__least_equal := f10, d__least_equal := (PySem.W.fnOf "_least_equal" "_least_equal" (defArgs s__least_equal) (defBody s__least_equal) (defScope s__least_equal) .none kV10 dc10 pm10 an10 cd10 ct10), a_hidden_places := f11, d_hidden_places := (PySem.W.fnOf "hidden_places" "hidden_places" (defArgs s_hidden_places) (defBody s_hidden_places) (defScope s_hidden_places) .none kV11 dc11 pm11 an11 cd11 ct11), a_find_places := f12, d_find_places := (PySem.W.fnOf "find_places" "find_places" (defArgs s_find_places) (defBody s_find_places) (defScope s_find_places) .none kV12 dc12 pm12 an12 cd12 ct12), a_is_hidden := f13, d_is_hidden := (PySem.W.fnOf "is_hidden" "is_hidden" (defArgs s_is_hidden) (defBody s_is_hidden) (defScope s_is_hidden) .none kV13 dc13 pm13 an13 cd13 ct13), a__law_hand := f14, d__law_hand := (PySem.W.fnOf "_law_hand" "_law_hand" (defArgs s__law_hand) (defBody s__law_hand) (defScope s__law_hand) .none kV14 dc14 pm14 an14 cd14 ct14), a__law_mixed := f15, d__law_mixed := (PySem.W.fnOf "_law_mixed" "_law_mixed" (defArgs s__law_mixed) (defBody s__law_mixed) (defScope s__law_mixed) .none kV15 dc15 pm15 an15 cd15 ct15), a__law_take := f16, d__law_take := (PySem.W.fnOf "_law_take" "_law_take" (defArgs s__law_take) (defBody s__law_take) (defScope s__law_take) .none kV16 dc16 pm16 an16 cd16 ct16), a__law_struck := f17, d__law_struck := (PySem.W.fnOf "_law_struck" "_law_struck" (defArgs s__law_struck) (defBody s__law_struck) (defScope s__law_struck) .none kV17 dc17 pm17 an17 cd17 ct17), a__law_tuples := f18, d__law_tuples := (PySem.W.fnOf "_law_tuples" "_law_tuples" (defArgs s__law_tuples) (defBody s__law_tuples) (defScope s__law_tuples) .none kV18 dc18 pm18 an18 cd18 ct18), a__law_pick := f19, d__law_pick := (PySem.W.fnOf "_law_pick" "_law_pick" (defArgs s__law_pick) (defBody s__law_pick) (defScope s__law_pick) .none kV19 dc19 pm19 an19 cd19 ct19), a__law_says := f20, d__law_says := (PySem.W.fnOf "_law_says" "_law_says" (defArgs s__law_says) (defBody s__law_says) (defScope s__law_says) .none kV20 dc20 pm20 an20 cd20 ct20), a__law_tone := f21, d__law_tone := (PySem.W.fnOf "_law_tone" "_law_tone" (defArgs s__law_tone) (defBody s__law_tone) (defScope s__law_tone) .none kV21 dc21 pm21 an21 cd21 ct21), a__law_row := f22, d__law_row := (PySem.W.fnOf "_law_row" "_law_row" (defArgs s__law_row) (defBody s__law_row) (defScope s__law_row) .none kV22 dc22 pm22 an22 cd22 ct22), a__law_varied := f23, d__law_varied := (PySem.W.fnOf "_law_varied" "_law_varied" (defArgs s__law_varied) (defBody s__law_varied) (defScope s__law_varied) .none kV23 dc23 pm23 an23 cd23 ct23), a__law_strip := f24, d__law_strip := (PySem.W.fnOf "_law_strip" "_law_strip" (defArgs s__law_strip) (defBody s__law_strip) (defScope s__law_strip) .none kV24 dc24 pm24 an24 cd24 ct24), a__law_no_row := f25, d__law_no_row := (PySem.W.fnOf "_law_no_row" "_law_no_row" (defArgs s__law_no_row) (defBody s__law_no_row) (defScope s__law_no_row) .none kV25 dc25 pm25 an25 cd25 ct25), a__law_places := f26, d__law_places := (PySem.W.fnOf "_law_places" "_law_places" (defArgs s__law_places) (defBody s__law_places) (defScope s__law_places) .none kV26 dc26 pm26 an26 cd26 ct26), a__law_asked := f27, d__law_asked := (PySem.W.fnOf "_law_asked" "_law_asked" (defArgs s__law_asked) (defBody s__law_asked) (defScope s__law_asked) .none kV27 dc27 pm27 an27 cd27 ct27), a__law_refusals := f28, d__law_refusals := (PySem.W.fnOf "_law_refusals" "_law_refusals" (defArgs s__law_refusals) (defBody s__law_refusals) (defScope s__law_refusals) .none kV28 dc28 pm28 an28 cd28 ct28), a__law_right := f29, d__law_right := (PySem.W.fnOf "_law_right" "_law_right" (defArgs s__law_right) (defBody s__law_right) (defScope s__law_right) .none kV29 dc29 pm29 an29 cd29 ct29), a_law := fa, d_law := (PySem.W.fnOf "law" "law" (defArgs s_law) (defBody s_law) (defScope s_law) .none kV30 dc30 pm30 an30 cd30 ct30), c_HueError := C0, c_BadColour := C1, c_BadRow := C2, i_BadColour := I0, di_BadColour := (PySem.W.fnOf "__init__" "BadColour.__init__" (defArgs s_BadColour) (defBody s_BadColour) (defScope s_BadColour) .none kVI0 dcI0 pmI0 anI0 cdI0 ctI0), i_BadRow := I1, di_BadRow := (PySem.W.fnOf "__init__" "BadRow.__init__" (defArgs s_BadRow) (defBody s_BadRow) (defScope s_BadRow) .none kVI1 dcI1 pmI1 anI1 cdI1 ctI1) }
  have F0 : FunD K "is_whole" "is_whole" (defArgs s_is_whole) (defBody s_is_whole) (defScope s_is_whole) [.non, .non] [] A.a_is_whole A.d_is_whole := ⟨⟨_, _, _, _, _, _, _, _, _, _, rfl, l0, c0, .inr ⟨by simp, _, _, [.none, .none], _, rfl, q0l, rfl, (.cons rfl (.cons rfl .nil))⟩, .inl rfl⟩, k0⟩
  have F1 : FunD K "is_sequence" "is_sequence" (defArgs s_is_sequence) (defBody s_is_sequence) (defScope s_is_sequence) [] [] A.a_is_sequence A.d_is_sequence := ⟨⟨_, _, _, _, _, _, _, _, _, _, rfl, l1, c1, .inl ⟨rfl, rfl⟩, .inl rfl⟩, k1⟩
  have F2 : FunD K "is_colour" "is_colour" (defArgs s_is_colour) (defBody s_is_colour) (defScope s_is_colour) [] [] A.a_is_colour A.d_is_colour := ⟨⟨_, _, _, _, _, _, _, _, _, _, rfl, l2, c2, .inl ⟨rfl, rfl⟩, .inl rfl⟩, k2⟩
  have F3 : FunD K "wrong_colour" "wrong_colour" (defArgs s_wrong_colour) (defBody s_wrong_colour) (defScope s_wrong_colour) [] [] A.a_wrong_colour A.d_wrong_colour := ⟨⟨_, _, _, _, _, _, _, _, _, _, rfl, l3, c3, .inl ⟨rfl, rfl⟩, .inl rfl⟩, k3⟩
  have F4 : FunD K "check_colour" "check_colour" (defArgs s_check_colour) (defBody s_check_colour) (defScope s_check_colour) [] [] A.a_check_colour A.d_check_colour := ⟨⟨_, _, _, _, _, _, _, _, _, _, rfl, l4, c4, .inl ⟨rfl, rfl⟩, .inl rfl⟩, k4⟩
  have F5 : FunD K "check_row" "check_row" (defArgs s_check_row) (defBody s_check_row) (defScope s_check_row) [.int 60] [] A.a_check_row A.d_check_row := ⟨⟨_, _, _, _, _, _, _, _, _, _, rfl, l5, c5, .inr ⟨by simp, _, _, [.int 60 t5_0], _, rfl, q5l, rfl, (.cons ⟨_, rfl⟩ .nil)⟩, .inl rfl⟩, k5⟩
  have F6 : FunD K "struck_row" "struck_row" (defArgs s_struck_row) (defBody s_struck_row) (defScope s_struck_row) [] [] A.a_struck_row A.d_struck_row := ⟨⟨_, _, _, _, _, _, _, _, _, _, rfl, l6, c6, .inl ⟨rfl, rfl⟩, .inl rfl⟩, k6⟩
  have F7 : FunD K "strike" "strike" (defArgs s_strike) (defBody s_strike) (defScope s_strike) [] [] A.a_strike A.d_strike := ⟨⟨_, _, _, _, _, _, _, _, _, _, rfl, l7, c7, .inl ⟨rfl, rfl⟩, .inl rfl⟩, k7⟩
  have F8 : FunD K "least_equal_row" "least_equal_row" (defArgs s_least_equal_row) (defBody s_least_equal_row) (defScope s_least_equal_row) [.non] [] A.a_least_equal_row A.d_least_equal_row := ⟨⟨_, _, _, _, _, _, _, _, _, _, rfl, l8, c8, .inr ⟨by simp, _, _, [.none], _, rfl, q8l, rfl, (.cons rfl .nil)⟩, .inl rfl⟩, k8⟩
  have F9 : FunD K "_check_first" "_check_first" (defArgs s__check_first) (defBody s__check_first) (defScope s__check_first) [] [] A.a__check_first A.d__check_first := ⟨⟨_, _, _, _, _, _, _, _, _, _, rfl, l9, c9, .inl ⟨rfl, rfl⟩, .inl rfl⟩, k9⟩
  have F10 : FunD K "_least_equal" "_least_equal" (defArgs s__least_equal) (defBody s__least_equal) (defScope s__least_equal) [] [] A.a__least_equal A.d__least_equal := ⟨⟨_, _, _, _, _, _, _, _, _, _, rfl, l10, c10, .inl ⟨rfl, rfl⟩, .inl rfl⟩, k10⟩
  have F11 : FunD K "hidden_places" "hidden_places" (defArgs s_hidden_places) (defBody s_hidden_places) (defScope s_hidden_places) [] [] A.a_hidden_places A.d_hidden_places := ⟨⟨_, _, _, _, _, _, _, _, _, _, rfl, l11, c11, .inl ⟨rfl, rfl⟩, .inl rfl⟩, k11⟩
  have F12 : FunD K "find_places" "find_places" (defArgs s_find_places) (defBody s_find_places) (defScope s_find_places) [] [] A.a_find_places A.d_find_places := ⟨⟨_, _, _, _, _, _, _, _, _, _, rfl, l12, c12, .inl ⟨rfl, rfl⟩, .inl rfl⟩, k12⟩
  have F13 : FunD K "is_hidden" "is_hidden" (defArgs s_is_hidden) (defBody s_is_hidden) (defScope s_is_hidden) [] [] A.a_is_hidden A.d_is_hidden := ⟨⟨_, _, _, _, _, _, _, _, _, _, rfl, l13, c13, .inl ⟨rfl, rfl⟩, .inl rfl⟩, k13⟩
  have F14 : FunD K "_law_hand" "_law_hand" (defArgs s__law_hand) (defBody s__law_hand) (defScope s__law_hand) [] [] A.a__law_hand A.d__law_hand := ⟨⟨_, _, _, _, _, _, _, _, _, _, rfl, l14, c14, .inl ⟨rfl, rfl⟩, .inl rfl⟩, k14⟩
  have F15 : FunD K "_law_mixed" "_law_mixed" (defArgs s__law_mixed) (defBody s__law_mixed) (defScope s__law_mixed) [] [] A.a__law_mixed A.d__law_mixed := ⟨⟨_, _, _, _, _, _, _, _, _, _, rfl, l15, c15, .inl ⟨rfl, rfl⟩, .inl rfl⟩, k15⟩
  have F16 : FunD K "_law_take" "_law_take" (defArgs s__law_take) (defBody s__law_take) (defScope s__law_take) [] [] A.a__law_take A.d__law_take := ⟨⟨_, _, _, _, _, _, _, _, _, _, rfl, l16, c16, .inl ⟨rfl, rfl⟩, .inl rfl⟩, k16⟩
  have F17 : FunD K "_law_struck" "_law_struck" (defArgs s__law_struck) (defBody s__law_struck) (defScope s__law_struck) [] [] A.a__law_struck A.d__law_struck := ⟨⟨_, _, _, _, _, _, _, _, _, _, rfl, l17, c17, .inl ⟨rfl, rfl⟩, .inl rfl⟩, k17⟩
  have F18 : FunD K "_law_tuples" "_law_tuples" (defArgs s__law_tuples) (defBody s__law_tuples) (defScope s__law_tuples) [] [] A.a__law_tuples A.d__law_tuples := ⟨⟨_, _, _, _, _, _, _, _, _, _, rfl, l18, c18, .inl ⟨rfl, rfl⟩, .inl rfl⟩, k18⟩
  have F19 : FunD K "_law_pick" "_law_pick" (defArgs s__law_pick) (defBody s__law_pick) (defScope s__law_pick) [] [] A.a__law_pick A.d__law_pick := ⟨⟨_, _, _, _, _, _, _, _, _, _, rfl, l19, c19, .inl ⟨rfl, rfl⟩, .inl rfl⟩, k19⟩
  have F20 : FunD K "_law_says" "_law_says" (defArgs s__law_says) (defBody s__law_says) (defScope s__law_says) [] [] A.a__law_says A.d__law_says := ⟨⟨_, _, _, _, _, _, _, _, _, _, rfl, l20, c20, .inl ⟨rfl, rfl⟩, .inl rfl⟩, k20⟩
  have F21 : FunD K "_law_tone" "_law_tone" (defArgs s__law_tone) (defBody s__law_tone) (defScope s__law_tone) [] [] A.a__law_tone A.d__law_tone := ⟨⟨_, _, _, _, _, _, _, _, _, _, rfl, l21, c21, .inl ⟨rfl, rfl⟩, .inl rfl⟩, k21⟩
  have F22 : FunD K "_law_row" "_law_row" (defArgs s__law_row) (defBody s__law_row) (defScope s__law_row) [] [] A.a__law_row A.d__law_row := ⟨⟨_, _, _, _, _, _, _, _, _, _, rfl, l22, c22, .inl ⟨rfl, rfl⟩, .inl rfl⟩, k22⟩
  have F23 : FunD K "_law_varied" "_law_varied" (defArgs s__law_varied) (defBody s__law_varied) (defScope s__law_varied) [] [] A.a__law_varied A.d__law_varied := ⟨⟨_, _, _, _, _, _, _, _, _, _, rfl, l23, c23, .inl ⟨rfl, rfl⟩, .inl rfl⟩, k23⟩
  have F24 : FunD K "_law_strip" "_law_strip" (defArgs s__law_strip) (defBody s__law_strip) (defScope s__law_strip) [] [] A.a__law_strip A.d__law_strip := ⟨⟨_, _, _, _, _, _, _, _, _, _, rfl, l24, c24, .inl ⟨rfl, rfl⟩, .inl rfl⟩, k24⟩
  have F25 : FunD K "_law_no_row" "_law_no_row" (defArgs s__law_no_row) (defBody s__law_no_row) (defScope s__law_no_row) [] [] A.a__law_no_row A.d__law_no_row := ⟨⟨_, _, _, _, _, _, _, _, _, _, rfl, l25, c25, .inl ⟨rfl, rfl⟩, .inl rfl⟩, k25⟩
  have F26 : FunD K "_law_places" "_law_places" (defArgs s__law_places) (defBody s__law_places) (defScope s__law_places) [] [] A.a__law_places A.d__law_places := ⟨⟨_, _, _, _, _, _, _, _, _, _, rfl, l26, c26, .inl ⟨rfl, rfl⟩, .inl rfl⟩, k26⟩
  have F27 : FunD K "_law_asked" "_law_asked" (defArgs s__law_asked) (defBody s__law_asked) (defScope s__law_asked) [] [] A.a__law_asked A.d__law_asked := ⟨⟨_, _, _, _, _, _, _, _, _, _, rfl, l27, c27, .inl ⟨rfl, rfl⟩, .inl rfl⟩, k27⟩
  have F28 : FunD K "_law_refusals" "_law_refusals" (defArgs s__law_refusals) (defBody s__law_refusals) (defScope s__law_refusals) [] [] A.a__law_refusals A.d__law_refusals := ⟨⟨_, _, _, _, _, _, _, _, _, _, rfl, l28, c28, .inl ⟨rfl, rfl⟩, .inl rfl⟩, k28⟩
  have F29 : FunD K "_law_right" "_law_right" (defArgs s__law_right) (defBody s__law_right) (defScope s__law_right) [] [] A.a__law_right A.d__law_right := ⟨⟨_, _, _, _, _, _, _, _, _, _, rfl, l29, c29, .inl ⟨rfl, rfl⟩, .inl rfl⟩, k29⟩
  have F30 : FunD K "law" "law" (defArgs s_law) (defBody s_law) (defScope s_law) [] [] A.a_law A.d_law := ⟨⟨_, _, _, _, _, _, _, _, _, _, rfl, l30, c30, .inl ⟨rfl, rfl⟩, .inl rfl⟩, k30⟩
  have T : Tx K mg A := {
    F_is_whole := F0
    g_is_whole := PySem.W.mg_of X G a0
    b_is_whole := bindD0 F0 (by simp) fun _ _ _ _ _ _ _ us its h1 h2 => match us, its, h1, h2 with | [_, _, _], [_, _], _, _ => ⟨_, rfl, rfl⟩
    F_is_sequence := F1
    g_is_sequence := PySem.W.mg_of X G a1
    b_is_sequence := (fun_mk (st := s_is_sequence) l1 c1 k1).binds (ps := ["thing"]) fun _ _ _ _ _ _ us hl => match us, hl with | [_], _ => rfl
    F_is_colour := F2
    g_is_colour := PySem.W.mg_of X G a2
    b_is_colour := (fun_mk (st := s_is_colour) l2 c2 k2).binds (ps := ["thing"]) fun _ _ _ _ _ _ us hl => match us, hl with | [_], _ => rfl
    F_wrong_colour := F3
    g_wrong_colour := PySem.W.mg_of X G a3
    b_wrong_colour := (fun_mk (st := s_wrong_colour) l3 c3 k3).binds (ps := ["row"]) fun _ _ _ _ _ _ us hl => match us, hl with | [_], _ => rfl
    F_check_colour := F4
    g_check_colour := PySem.W.mg_of X G a4
    b_check_colour := (fun_mk (st := s_check_colour) l4 c4 k4).binds (ps := ["colour"]) fun _ _ _ _ _ _ us hl => match us, hl with | [_], _ => rfl
    F_check_row := F5
    g_check_row := PySem.W.mg_of X G a5
    b_check_row := bindD0 F5 (by simp) fun _ _ _ _ _ _ _ us its h1 h2 => match us, its, h1, h2 with | [_, _], [_], _, _ => ⟨_, rfl, rfl⟩
    F_struck_row := F6
    g_struck_row := PySem.W.mg_of X G a6
    b_struck_row := (fun_mk (st := s_struck_row) l6 c6 k6).binds (ps := ["row"]) fun _ _ _ _ _ _ us hl => match us, hl with | [_], _ => rfl
    F_strike := F7
    g_strike := PySem.W.mg_of X G a7
    b_strike := (fun_mk (st := s_strike) l7 c7 k7).binds (ps := ["row"]) fun _ _ _ _ _ _ us hl => match us, hl with | [_], _ => rfl
    F_least_equal_row := F8
    g_least_equal_row := PySem.W.mg_of X G a8
    b_least_equal_row := bindD0 F8 (by simp) fun _ _ _ _ _ _ _ us its h1 h2 => match us, its, h1, h2 with | [_, _], [_], _, _ => ⟨_, rfl, rfl⟩
    b_least_equal_row_1 := bindD F8 1 0 (by simp) (by decide) fun _ _ _ _ _ _ _ us its h1 h2 => match us, its, h1, h2 with | [_], [_], _, _ => ⟨_, rfl, rfl⟩
    kw_least_equal_row_first := kbind1 F8 1 ["first"] (fun us _ ws => us ++ ws) (by simp) (fun r1 _ r3 => vals_append r1 r3) fun _ _ _ _ _ _ _ us its ws h1 h2 h3 => match us, its, ws, h1, h2, h3 with | [_], [_], [_], _, _, _ => ⟨_, rfl, rfl⟩
    F__check_first := F9
    g__check_first := PySem.W.mg_of X G a9
    b__check_first := (fun_mk (st := s__check_first) l9 c9 k9).binds (ps := ["first"]) fun _ _ _ _ _ _ us hl => match us, hl with | [_], _ => rfl
    F__least_equal := F10
    g__least_equal := PySem.W.mg_of X G a10
    b__least_equal := (fun_mk (st := s__least_equal) l10 c10 k10).binds (ps := ["row", "first"]) fun _ _ _ _ _ _ us hl => match us, hl with | [_, _], _ => rfl
    F_hidden_places := F11
    g_hidden_places := PySem.W.mg_of X G a11
    b_hidden_places := (fun_mk (st := s_hidden_places) l11 c11 k11).binds (ps := ["row", "within"]) fun _ _ _ _ _ _ us hl => match us, hl with | [_, _], _ => rfl
    F_find_places := F12
    g_find_places := PySem.W.mg_of X G a12
    b_find_places := (fun_mk (st := s_find_places) l12 c12 k12).binds (ps := ["row", "within"]) fun _ _ _ _ _ _ us hl => match us, hl with | [_, _], _ => rfl
    F_is_hidden := F13
    g_is_hidden := PySem.W.mg_of X G a13
    b_is_hidden := (fun_mk (st := s_is_hidden) l13 c13 k13).binds (ps := ["row", "within"]) fun _ _ _ _ _ _ us hl => match us, hl with | [_, _], _ => rfl
    F__law_hand := F14
    g__law_hand := PySem.W.mg_of X G a14
    b__law_hand := (fun_mk (st := s__law_hand) l14 c14 k14).binds (ps := ["_law_script"]) fun _ _ _ _ _ _ us hl => match us, hl with | [_], _ => rfl
    F__law_mixed := F15
    g__law_mixed := PySem.W.mg_of X G a15
    b__law_mixed := (fun_mk (st := s__law_mixed) l15 c15 k15).binds (ps := ["_law_number", "_law_turn"]) fun _ _ _ _ _ _ us hl => match us, hl with | [_, _], _ => rfl
    F__law_take := F16
    g__law_take := PySem.W.mg_of X G a16
    b__law_take := (fun_mk (st := s__law_take) l16 c16 k16).binds (ps := ["_law_hand_here", "_law_many"]) fun _ _ _ _ _ _ us hl => match us, hl with | [_, _], _ => rfl
    F__law_struck := F17
    g__law_struck := PySem.W.mg_of X G a17
    b__law_struck := (fun_mk (st := s__law_struck) l17 c17 k17).binds (ps := ["_law_row_here"]) fun _ _ _ _ _ _ us hl => match us, hl with | [_], _ => rfl
    F__law_tuples := F18
    g__law_tuples := PySem.W.mg_of X G a18
    b__law_tuples := (fun_mk (st := s__law_tuples) l18 c18 k18).binds (ps := ["_law_thing"]) fun _ _ _ _ _ _ us hl => match us, hl with | [_], _ => rfl
    F__law_pick := F19
    g__law_pick := PySem.W.mg_of X G a19
    b__law_pick := (fun_mk (st := s__law_pick) l19 c19 k19).binds (ps := ["_law_hand_here", "_law_things"]) fun _ _ _ _ _ _ us hl => match us, hl with | [_, _], _ => rfl
    F__law_says := F20
    g__law_says := PySem.W.mg_of X G a20
    b__law_says := (fun_mk (st := s__law_says) l20 c20 k20).binds (ps := ["_law_thing", "_law_due"]) fun _ _ _ _ _ _ us hl => match us, hl with | [_, _], _ => rfl
    F__law_tone := F21
    g__law_tone := PySem.W.mg_of X G a21
    b__law_tone := (fun_mk (st := s__law_tone) l21 c21 k21).binds (ps := ["_law_hand_here", "_law_tones"]) fun _ _ _ _ _ _ us hl => match us, hl with | [_, _], _ => rfl
    F__law_row := F22
    g__law_row := PySem.W.mg_of X G a22
    b__law_row := (fun_mk (st := s__law_row) l22 c22 k22).binds (ps := ["_law_hand_here", "_law_most", "_law_tones"]) fun _ _ _ _ _ _ us hl => match us, hl with | [_, _, _], _ => rfl
    F__law_varied := F23
    g__law_varied := PySem.W.mg_of X G a23
    b__law_varied := (fun_mk (st := s__law_varied) l23 c23 k23).binds (ps := ["_law_hand_here", "_law_row_here", "_law_tones", "_law_most"]) fun _ _ _ _ _ _ us hl => match us, hl with | [_, _, _, _], _ => rfl
    F__law_strip := F24
    g__law_strip := PySem.W.mg_of X G a24
    b__law_strip := (fun_mk (st := s__law_strip) l24 c24 k24).binds (ps := ["_law_row_here", "_law_head"]) fun _ _ _ _ _ _ us hl => match us, hl with | [_, _], _ => rfl
    F__law_no_row := F25
    g__law_no_row := PySem.W.mg_of X G a25
    b__law_no_row := (fun_mk (st := s__law_no_row) l25 c25 k25).binds (ps := ["_law_hand_here", "_law_row_here", "_law_most"]) fun _ _ _ _ _ _ us hl => match us, hl with | [_, _, _], _ => rfl
    F__law_places := F26
    g__law_places := PySem.W.mg_of X G a26
    b__law_places := (fun_mk (st := s__law_places) l26 c26 k26).binds (ps := ["_law_row_here", "_law_within"]) fun _ _ _ _ _ _ us hl => match us, hl with | [_, _], _ => rfl
    F__law_asked := F27
    g__law_asked := PySem.W.mg_of X G a27
    b__law_asked := (fun_mk (st := s__law_asked) l27 c27 k27).binds (ps := ["_law_kind", "_law_row_here", "_law_within", "_law_first"]) fun _ _ _ _ _ _ us hl => match us, hl with | [_, _, _, _], _ => rfl
    F__law_refusals := F28
    g__law_refusals := PySem.W.mg_of X G a28
    b__law_refusals := (fun_mk (st := s__law_refusals) l28 c28 k28).binds (ps := ["_law_hand_here", "_law_row_here", "_law_within"]) fun _ _ _ _ _ _ us hl => match us, hl with | [_, _, _], _ => rfl
    F__law_right := F29
    g__law_right := PySem.W.mg_of X G a29
    b__law_right := (fun_mk (st := s__law_right) l29 c29 k29).binds (ps := ["_law_row_here", "_law_within", "_law_first"]) fun _ _ _ _ _ _ us hl => match us, hl with | [_, _, _], _ => rfl
    F_law := F30
    g_law := PySem.W.mg_of X G a30
    b_law := (fun_mk (st := s_law) l30 c30 k30).binds (ps := ["_law_script"]) fun _ _ _ _ _ _ us hl => match us, hl with | [_], _ => rfl
    h_BadColour_colour := n0_colour
    o_BadColour := ⟨⟨_, _, _, _, _, _, _, _, _, _, _, _, _, _, _, x0, r0⟩, sa0, eC0, tC0, kC0⟩
    x_BadColour := ⟨ga0, gg0, eC0, hd0⟩
    g_BadColour := PySem.W.mg_of X G C1a
    i_BadColour := i0
    t_BadColour := t0
    FI_BadColour := ⟨⟨_, _, _, _, _, _, _, _, _, _, rfl, lI0, cI0, .inl ⟨rfl, rfl⟩, .inl rfl⟩, kI0⟩
    bi_BadColour := (fun_mk (st := s_BadColour) lI0 cI0 kI0).binds (ps := ["self", "colour"]) fun _ _ _ _ _ _ us hl => match us, hl with | [_, _], _ => rfl
    h_BadRow_index := n1_index
    o_BadRow := ⟨⟨_, _, _, _, _, _, _, _, _, _, _, _, _, _, _, x1, r1⟩, sa1, eC1, tC1, kC1⟩
    x_BadRow := ⟨ga1, gg1, eC1, hd1⟩
    g_BadRow := PySem.W.mg_of X G C2a
    i_BadRow := i1
    t_BadRow := t1
    FI_BadRow := ⟨⟨_, _, _, _, _, _, _, _, _, _, rfl, lI1, cI1, .inl ⟨rfl, rfl⟩, .inl rfl⟩, kI1⟩
    bi_BadRow := (fun_mk (st := s_BadRow) lI1 cI1 kI1).binds (ps := ["self", "index"]) fun _ _ _ _ _ _ us hl => match us, hl with | [_, _], _ => rfl
    base := ⟨PySem.W.mg_of X G C0a, Bsp, Brd, BvI⟩
    ex := fun c c' h h' => match c, c', h, h' with | 0, 0, _, _ => exm_two eC0 is0 tC0 e0_0 | 0, 1, _, _ => exm_two eC1 is1 tC1 e0_1 | 1, 0, _, _ => exm_two eC0 is0 tC0 e1_0 | 1, 1, _, _ => exm_two eC1 is1 tC1 e1_1 | c + 2, _, h, _ => absurd h (by omega) | 0, c + 2, _, h => absurd h (by omega) | 1, c + 2, _, h => absurd h (by omega)
    n_abs := PySem.W.mg_none_of X G z_abs
    n_bool := PySem.W.mg_none_of X G z_bool
    n_enumerate := PySem.W.mg_none_of X G z_enumerate
    n_int := PySem.W.mg_none_of X G z_int
    n_isinstance := PySem.W.mg_none_of X G z_isinstance
    n_len := PySem.W.mg_none_of X G z_len
    n_list := PySem.W.mg_none_of X G z_list
    n_min := PySem.W.mg_none_of X G z_min
    n_range := PySem.W.mg_none_of X G z_range
    n_tuple := PySem.W.mg_none_of X G z_tuple
    k_MOST_COLOUR := ⟨_, PySem.W.mg_of X G v_MOST_COLOUR⟩
    k_MOST_ROW := ⟨_, PySem.W.mg_of X G v_MOST_ROW⟩
  }
  exact ⟨(PySem.W.fnOf "law" "law" (defArgs s_law) (defBody s_law) (defScope s_law) .none kV30 dc30 pm30 an30 cd30 ct30), fun s v => .of_eq rfl, fun base _ _ => ok_law T hm⟩
theorem walk {l : PySem.W.OpenLaw} {q : Program} {loose : List Str} {XP : (Str → Option Value) → Heap → Prop} {YP : World → Heap → Prop} {d : DefRec} {K : Params → PySem.W.Frag} (hn : l.most = some 63) (hdf : d.params.defaults = [])
    (hY : ∀ (w : World) (h : Heap), YP w h → (K w.params).In h)
    (F : ∀ (w : World) (mg : Str → Option Value) (fa : Addr) (h : Heap), (K w.params).In h → h.Ns mainGlobals mg → mg d.name = some (.ref fa) →
      ∃ fd : FuncData, (∀ (s : Shared) (u : Value), BindsTo s fd ⟨[u], []⟩ [("_law_script", u)]) ∧ ∀ base : Heap, (K w.params).In base → base.Ns mainGlobals mg → FnOk l.prog w (K w.params) mg base (L2.CX l.prog w) 9 fa fd ["_law_script"] (spLaw (K w.params))) :
    PySem.W.WalkO q loose XP YP l.row.toRowW d [] (fun f vs => PySem.call f vs) :=
  L2.walk_of (n := 63) (k := 9) (x := "_law_script") (CX := fun w => L2.CX l.prog w) (sp := fun w => spLaw (K w.params)) hn (by decide) hdf ⟨rfl, by decide, by decide⟩ hY F (fun _ _ a ns hl _ hS => ⟨a, ns, rfl, hS, hl, fun _ => rfl⟩) fun _ _ _ _ _ z => cx_no z
end G_spreadhues_k19_rows_struck_and_hidden
open PySem PySem.W PyProof.Rows
set_option maxRecDepth 100000 in
set_option maxHeartbeats 0 in
theorem PySem.Challenge.cw_spreadhues_k19_rows_struck_and_hidden_holds : PySem.Challenge.rw_spreadhues_k19_rows_struck_and_hidden.Holds := by
  w_on; o_law; k_head; (case hw => w_witness2)
  k_fill
  refine G_spreadhues_k19_rows_struck_and_hidden.walk (l := PySem.Challenge.rw_spreadhues_k19_rows_struck_and_hidden) rfl rfl (fun w h Y => PySem.W.kIn_of Y) ?F
  case F =>
    intro w mg fa h KX G hmg
    refine' G_spreadhues_k19_rows_struck_and_hidden.all_mk G_spreadhues_k19_rows_struck_and_hidden.law_true KX G hmg ?a0 ?l0 ?c0 ?k0 ?q0l ?a1 ?l1 ?c1 ?k1 ?a2 ?l2 ?c2 ?k2 ?a3 ?l3 ?c3 ?k3 ?a4 ?l4 ?c4 ?k4 ?a5 ?l5 ?c5 ?k5 ?q5l ?a6 ?l6 ?c6 ?k6 ?a7 ?l7 ?c7 ?k7 ?a8 ?l8 ?c8 ?k8 ?q8l ?a9 ?l9 ?c9 ?k9 ?a10 ?l10 ?c10 ?k10 ?a11 ?l11 ?c11 ?k11 ?a12 ?l12 ?c12 ?k12 ?a13 ?l13 ?c13 ?k13 ?a14 ?l14 ?c14 ?k14 ?a15 ?l15 ?c15 ?k15 ?a16 ?l16 ?c16 ?k16 ?a17 ?l17 ?c17 ?k17 ?a18 ?l18 ?c18 ?k18 ?a19 ?l19 ?c19 ?k19 ?a20 ?l20 ?c20 ?k20 ?a21 ?l21 ?c21 ?k21 ?a22 ?l22 ?c22 ?k22 ?a23 ?l23 ?c23 ?k23 ?a24 ?l24 ?c24 ?k24 ?a25 ?l25 ?c25 ?k25 ?a26 ?l26 ?c26 ?k26 ?a27 ?l27 ?c27 ?k27 ?a28 ?l28 ?c28 ?k28 ?a29 ?l29 ?c29 ?k29 ?a30 ?l30 ?c30 ?k30 ?C0a ?C1a ?C2a ?x0 ?r0 ?sa0 ?eC0 ?tC0 ?is0 ?kC0 ?ga0 ?gg0 ?hd0 ?i0 ?t0 ?lI0 ?cI0 ?kI0 ?n0_colour ?x1 ?r1 ?sa1 ?eC1 ?tC1 ?is1 ?kC1 ?ga1 ?gg1 ?hd1 ?i1 ?t1 ?lI1 ?cI1 ?kI1 ?n1_index ?Bsp ?Brd ?BvI ?e0_0 ?e0_1 ?e1_0 ?e1_1 ?z_abs ?z_bool ?z_enumerate ?z_int ?z_isinstance ?z_len ?z_list ?z_min ?z_range ?z_tuple ?v_MOST_COLOUR ?v_MOST_ROW
    (case a0 => k_is)
    (case l0 => k_is)
    (case c0 => k_is)
    (case k0 => k_is)
    (case q0l => k_is)
    (case a1 => k_is)
    (case l1 => k_is)
    (case c1 => k_is)
    (case k1 => k_is)
    (case a2 => k_is)
    (case l2 => k_is)
    (case c2 => k_is)
    (case k2 => k_is)
    (case a3 => k_is)
    (case l3 => k_is)
    (case c3 => k_is)
    (case k3 => k_is)
    (case a4 => k_is)
    (case l4 => k_is)
    (case c4 => k_is)
    (case k4 => k_is)
    (case a5 => k_is)
    (case l5 => k_is)
    (case c5 => k_is)
    (case k5 => k_is)
    (case q5l => k_is)
    (case a6 => k_is)
    (case l6 => k_is)
    (case c6 => k_is)
    (case k6 => k_is)
    (case a7 => k_is)
    (case l7 => k_is)
    (case c7 => k_is)
    (case k7 => k_is)
    (case a8 => k_is)
    (case l8 => k_is)
    (case c8 => k_is)
    (case k8 => k_is)
    (case q8l => k_is)
    (case a9 => k_is)
    (case l9 => k_is)
    (case c9 => k_is)
    (case k9 => k_is)
    (case a10 => k_is)
    (case l10 => k_is)
    (case c10 => k_is)
    (case k10 => k_is)
    (case a11 => k_is)
    (case l11 => k_is)
    (case c11 => k_is)
    (case k11 => k_is)
    (case a12 => k_is)
    (case l12 => k_is)
    (case c12 => k_is)
    (case k12 => k_is)
    (case a13 => k_is)
    (case l13 => k_is)
    (case c13 => k_is)
    (case k13 => k_is)
    (case a14 => k_is)
    (case l14 => k_is)
    (case c14 => k_is)
    (case k14 => k_is)
    (case a15 => k_is)
    (case l15 => k_is)
    (case c15 => k_is)
    (case k15 => k_is)
    (case a16 => k_is)
    (case l16 => k_is)
    (case c16 => k_is)
    (case k16 => k_is)
    (case a17 => k_is)
    (case l17 => k_is)
    (case c17 => k_is)
    (case k17 => k_is)
    (case a18 => k_is)
    (case l18 => k_is)
    (case c18 => k_is)
    (case k18 => k_is)
    (case a19 => k_is)
    (case l19 => k_is)
    (case c19 => k_is)
    (case k19 => k_is)
    (case a20 => k_is)
    (case l20 => k_is)
    (case c20 => k_is)
    (case k20 => k_is)
    (case a21 => k_is)
    (case l21 => k_is)
    (case c21 => k_is)
    (case k21 => k_is)
    (case a22 => k_is)
    (case l22 => k_is)
    (case c22 => k_is)
    (case k22 => k_is)
    (case a23 => k_is)
    (case l23 => k_is)
    (case c23 => k_is)
    (case k23 => k_is)
    (case a24 => k_is)
    (case l24 => k_is)
    (case c24 => k_is)
    (case k24 => k_is)
    (case a25 => k_is)
    (case l25 => k_is)
    (case c25 => k_is)
    (case k25 => k_is)
    (case a26 => k_is)
    (case l26 => k_is)
    (case c26 => k_is)
    (case k26 => k_is)
    (case a27 => k_is)
    (case l27 => k_is)
    (case c27 => k_is)
    (case k27 => k_is)
    (case a28 => k_is)
    (case l28 => k_is)
    (case c28 => k_is)
    (case k28 => k_is)
    (case a29 => k_is)
    (case l29 => k_is)
    (case c29 => k_is)
    (case k29 => k_is)
    (case a30 => k_is)
    (case l30 => k_is)
    (case c30 => k_is)
    (case k30 => k_is)
    (case C0a => k_is)
    (case C1a => k_is)
    (case C2a => k_is)
    (case x0 => k_is)
    (case r0 => decide +kernel)
    (case sa0 => k_is)
    (case eC0 => k_is)
    (case tC0 => k_is)
    (case is0 => k_is)
    (case kC0 => k_is)
    (case ga0 => k_is)
    (case gg0 => k_is)
    (case hd0 => k_is)
    (case i0 => k_is)
    (case t0 => k_is)
    (case lI0 => k_is)
    (case cI0 => k_is)
    (case kI0 => k_is)
    (case n0_colour => k_is)
    (case x1 => k_is)
    (case r1 => decide +kernel)
    (case sa1 => k_is)
    (case eC1 => k_is)
    (case tC1 => k_is)
    (case is1 => k_is)
    (case kC1 => k_is)
    (case ga1 => k_is)
    (case gg1 => k_is)
    (case hd1 => k_is)
    (case i1 => k_is)
    (case t1 => k_is)
    (case lI1 => k_is)
    (case cI1 => k_is)
    (case kI1 => k_is)
    (case n1_index => k_is)
    (case Bsp => k_is)
    (case Brd => k_is)
    (case BvI => k_is)
    (case e0_0 => first | rfl | k_is)
    (case e0_1 => first | rfl | k_is)
    (case e1_0 => first | rfl | k_is)
    (case e1_1 => first | rfl | k_is)
    (case z_abs => k_is)
    (case z_bool => k_is)
    (case z_enumerate => k_is)
    (case z_int => k_is)
    (case z_isinstance => k_is)
    (case z_len => k_is)
    (case z_list => k_is)
    (case z_min => k_is)
    (case z_range => k_is)
    (case z_tuple => k_is)
    (case v_MOST_COLOUR => k_is)
    (case v_MOST_ROW => k_is)
