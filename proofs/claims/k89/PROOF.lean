import PyProof.Rows.All
import Wide.All
import OpenK.AllK
import Wide.FinOn
import HandS.ForMost
import HandS.IsInst
import HandS.Style
import HandS.TupAny
import HandS.TupMul
import HandS.Gcd
import HandS.Wide
import HandS.WideBits
import HandS.Conv
import HandS.Exc
import HandS.Zip0
import KE.GoesMore
import PyProof.Draws
import PyProof.EnumMake
import PyProof.ReprRoads
import PyProof.ReprLen
import PyProof.Rows.RegStrFacts
import HandS.ForDict
import HandS.Rev
import HandS.SetFor
import HandS.RaiseMore
import HandS.TryOnly
import KE.KMathGC
import HandS.Deep
import HandS.Zip
import KE.DataAny
import PySem.Challenge.RW_shaftshakes_k89_whole_parts_of_a_stir
set_option Elab.async false
set_option linter.all false
set_option maxRecDepth 100000
set_option maxHeartbeats 4000000
/-! A layer over HandS: values are told as data, one mutable list (the well) and local lists apart. -/
namespace DL
open PySem PySem.Spec PyProof.Rows L2

/-! ### data -/
mutual
inductive Dn (K : PySem.W.Frag) (H : Hp) : V → PyData → Prop
  | non : Dn K H .non .none
  | bl (b : Bool) : Dn K H (.bl b) (.bool b)
  | int (i : Int) : Dn K H (.int i) (.int i)
  | str (x : Str) : Dn K H (.str x) (.str x)
  | lst {a : Addr} {xs : List V} {ds : List PyData} : H a = some (.lst xs) → DnA K H xs ds → Dn K H (.ref a) (.list ds)
  | tup {a : Addr} {xs : List V} {ds : List PyData} : SqT K H a xs → DnA K H xs ds → Dn K H (.ref a) (.tuple ds)
  | emp {a : Addr} : H a = some (.dK []) → Dn K H (.ref a) (.dict [])
inductive DnA (K : PySem.W.Frag) (H : Hp) : List V → List PyData → Prop
  | nil : DnA K H [] []
  | cons {v : V} {vs : List V} {d : PyData} {ds : List PyData} : Dn K H v d → DnA K H vs ds → DnA K H (v :: vs) (d :: ds)
end

theorem Same.sqt {K : PySem.W.Frag} {H H' : Hp} {a : Addr} {xs : List V} (e : Same H H') (h : SqT K H a xs) : SqT K H' a xs := by
  rcases h with (h | ⟨o, h⟩) | h
  · exact .inl (.inl (e _ _ h))
  · exact .inl (.inr ⟨o, e _ _ h⟩)
  · exact .inr h

section
variable {K : PySem.W.Frag} {H H' : Hp}
mutual
theorem Dn.mono (e : Same H H') : ∀ {v : V} {d : PyData}, Dn K H v d → Dn K H' v d
  | _, _, .non => .non
  | _, _, .bl b => .bl b
  | _, _, .int i => .int i
  | _, _, .str x => .str x
  | _, _, .lst h1 h2 => .lst (e _ _ h1) (DnA.mono e h2)
  | _, _, .tup h1 h2 => .tup (Same.sqt e h1) (DnA.mono e h2)
  | _, _, .emp h => .emp (e _ _ h)
theorem DnA.mono (e : Same H H') : ∀ {vs : List V} {ds : List PyData}, DnA K H vs ds → DnA K H' vs ds
  | _, _, .nil => .nil
  | _, _, .cons h1 h2 => .cons (Dn.mono e h1) (DnA.mono e h2)
end
theorem DnA.length : ∀ {vs : List V} {ds : List PyData}, DnA K H vs ds → vs.length = ds.length
  | _, _, .nil => rfl
  | _, _, .cons _ h => by
    show _ + 1 = _ + 1
    rw [DnA.length h]
theorem DnA.get : ∀ {vs : List V} {ds : List PyData} {i : Nat} {d : PyData}, DnA K H vs ds → ds[i]? = some d → ∃ v, vs[i]? = some v ∧ Dn K H v d
  | _, _, i, _, .nil, e => by simp at e
  | _, _, 0, _, .cons h _, e => by
    simp at e
    subst e
    exact ⟨_, rfl, h⟩
  | _, _, i + 1, _, .cons _ h, e => by
    obtain ⟨v, q, r⟩ := DnA.get (i := i) h (by simpa using e)
    exact ⟨v, by simpa using q, r⟩
theorem DnA.getV : ∀ {vs : List V} {ds : List PyData} {i : Nat} {v : V}, DnA K H vs ds → vs[i]? = some v → ∃ d, ds[i]? = some d ∧ Dn K H v d
  | _, _, i, _, .nil, e => by simp at e
  | _, _, 0, _, .cons h _, e => by
    simp at e
    subst e
    exact ⟨_, rfl, h⟩
  | _, _, i + 1, _, .cons _ h, e => by
    obtain ⟨v, q, r⟩ := DnA.getV (i := i) h (by simpa using e)
    exact ⟨v, by simpa using q, r⟩
theorem DnA.append : ∀ {vs ws : List V} {ds es : List PyData}, DnA K H vs ds → DnA K H ws es → DnA K H (vs ++ ws) (ds ++ es)
  | _, _, _, _, .nil, h => h
  | _, _, _, _, .cons h1 h2, h => .cons h1 (DnA.append h2 h)
theorem DnA.take : ∀ {vs : List V} {ds : List PyData} (n : Nat), DnA K H vs ds → DnA K H (vs.take n) (ds.take n)
  | _, _, 0, _ => .nil
  | _, _, _ + 1, .nil => .nil
  | _, _, n + 1, .cons h1 h2 => .cons h1 (DnA.take n h2)
theorem DnA.drop : ∀ {vs : List V} {ds : List PyData} (n : Nat), DnA K H vs ds → DnA K H (vs.drop n) (ds.drop n)
  | _, _, 0, h => h
  | _, _, _ + 1, .nil => .nil
  | _, _, n + 1, .cons h1 h2 => DnA.drop n h2
theorem DnA.set : ∀ {vs : List V} {ds : List PyData} (i : Nat) {v : V} {d : PyData}, DnA K H vs ds → Dn K H v d → DnA K H (vs.set i v) (ds.set i d)
  | _, _, _, _, _, .nil, _ => .nil
  | _, _, 0, _, _, .cons _ h2, h => .cons h h2
  | _, _, i + 1, _, _, .cons h1 h2, h => .cons h1 (DnA.set i h2 h)
theorem DnA.bools : ∀ {vs : List V} {ns : List Bool}, DnA K H vs (ns.map PyData.bool) → vs = ns.map V.bl
  | _, [], .nil => rfl
  | _, n :: ns, .cons h1 h2 => by
    cases h1
    rw [DnA.bools h2]
    rfl
end

/-! ### what is hidden -/
def hid (M : List Addr) (H : Hp) : Hp := fun a => if a ∈ M then none else H a
theorem hid_out {M : List Addr} {H : Hp} {a : Addr} (h : a ∉ M) : hid M H a = H a := by unfold hid; rw [if_neg h]
theorem hid_some {M : List Addr} {H : Hp} {a : Addr} {o : HO} (h : hid M H a = some o) : a ∉ M ∧ H a = some o := by
  unfold hid at h
  by_cases q : a ∈ M
  · rw [if_pos q] at h; cases h
  · rw [if_neg q] at h; exact ⟨q, h⟩
theorem hid_sub (M : List Addr) (H : Hp) : Same (hid M H) H := fun a o h => (hid_some h).2
theorem hid_less {M N : List Addr} (H : Hp) (h : ∀ a ∈ N, a ∈ M) : Same (hid M H) (hid N H) := fun a o e => by
  obtain ⟨q, e⟩ := hid_some e
  rw [hid_out (fun z => q (h a z))]
  exact e
theorem hid_same {M : List Addr} {H H' : Hp} (h : ∀ a o, a ∉ M → H a = some o → H' a = some o) : Same (hid M H) (hid M H') := fun a o e => by
  obtain ⟨q, e⟩ := hid_some e
  rw [hid_out q]
  exact h a o q e

/-! ### slots -/
inductive Sl where
  | un
  | d (x : PyData)
  | own (l : Addr) (xs : List PyData)
  | well (w : Addr)
  | raw (v : V)

def WellAt (H : Hp) (w : Addr) : Prop := ∃ n b c : Int, H w = some (.lst [.int n, .int b, .int c]) ∧ 0 ≤ n ∧ 0 ≤ b ∧ b < 1099511627776

def SlotOk (K : PySem.W.Frag) (M : List Addr) (H : Hp) (ov : Option V) : Sl → Prop
  | .un => True
  | .d x => ∃ v, ov = some v ∧ Dn K (hid M H) v x
  | .own l xs => ov = some (.ref l) ∧ ∃ vs, H l = some (.lst vs) ∧ DnA K (hid M H) vs xs
  | .well w => ov = some (.ref w)
  | .raw v => ov = some v

structure Bs where
  M : List Addr
  Ws : List Addr
  H : Hp

structure Env (K : PySem.W.Frag) (B : Bs) (G : List Hp) (L : List Addr) (H : Hp) (σ : L2.St) (Γ : List Sl) : Prop where
  fr : ∀ a o, a ∉ B.Ws → B.H a = some o → H a = some o
  ws : ∀ w ∈ B.Ws, WellAt H w
  wm : ∀ w ∈ B.Ws, w ∈ B.M
  lm : ∀ m ∈ B.M, ∃ o, B.H m = some o
  lo : ∀ l ∈ L, B.H l = none ∧ ∃ xs, H l = some (.lst xs)
  len : σ.length = Γ.length
  sl : ∀ (i : Nat) (s : Sl), Γ[i]? = some s → SlotOk K (L ++ B.M) H (σ[i]?.join) s
  gh : ∀ g ∈ G, Same g (hid (L ++ B.M) H)
  ow : ∀ (i : Nat) (l : Addr) (xs : List PyData), Γ[i]? = some (.own l xs) → l ∈ L
  ou : ∀ (i j : Nat) (l : Addr) (xs ys : List PyData), Γ[i]? = some (.own l xs) → Γ[j]? = some (.own l ys) → i = j
  we : ∀ (i : Nat) (w : Addr), Γ[i]? = some (.well w) → w ∈ B.Ws

section
variable {K : PySem.W.Frag} {B : Bs} {G : List Hp} {L : List Addr} {H H' : Hp} {σ : L2.St} {Γ : List Sl}

theorem WellAt.ne {w a : Addr} (h : WellAt H w) (n : H a = none) : a ≠ w := by
  rintro rfl
  obtain ⟨_, _, _, e, _⟩ := h
  rw [n] at e; cases e
theorem Env.alive (E : Env K B G L H σ Γ) : ∀ a ∈ L ++ B.M, ∃ o, H a = some o := fun a ha => by
  rcases List.mem_append.mp ha with h | h
  · obtain ⟨_, xs, e⟩ := E.lo a h
    exact ⟨_, e⟩
  · by_cases w : a ∈ B.Ws
    · obtain ⟨n, b, c, e, _⟩ := E.ws a w
      exact ⟨_, e⟩
    · obtain ⟨o, e⟩ := E.lm a h
      exact ⟨o, E.fr a o w e⟩
theorem Env.newM (E : Env K B G L H σ Γ) {p : Addr} (h : H p = none) : p ∉ L ++ B.M := fun q => by
  obtain ⟨o, e⟩ := E.alive p q
  rw [h] at e; cases e
theorem Env.lW (E : Env K B G L H σ Γ) {l : Addr} (h : l ∈ L) : l ∉ B.Ws := fun w => by
  obtain ⟨o, e⟩ := E.lm l (E.wm l w)
  rw [(E.lo l h).1] at e; cases e
/-- all but the wells is kept -/
theorem Env.step (E : Env K B G L H σ Γ) (h1 : ∀ a o, a ∉ B.Ws → H a = some o → H' a = some o) (h2 : ∀ w ∈ B.Ws, WellAt H' w) :
    Env K B G L H' σ Γ ∧ Same (hid (L ++ B.M) H) (hid (L ++ B.M) H') := by
  have hs : Same (hid (L ++ B.M) H) (hid (L ++ B.M) H') := hid_same fun a o q e => h1 a o (fun w => q (List.mem_append_right _ (E.wm a w))) e
  refine ⟨⟨fun a o w e => h1 a o w (E.fr a o w e), h2, E.wm, E.lm, fun l hl => ?_, E.len, fun i s hi => ?_, fun p hp => (E.gh p hp).trans hs, E.ow, E.ou, E.we⟩, hs⟩
  · obtain ⟨e, xs, q⟩ := E.lo l hl
    exact ⟨e, xs, h1 l _ (E.lW hl) q⟩
  · have q := E.sl i s hi
    cases s with
    | un => trivial
    | d x =>
      obtain ⟨v, e, dn⟩ := q
      exact ⟨v, e, dn.mono hs⟩
    | own l xs =>
      obtain ⟨e, vs, hl, dn⟩ := q
      exact ⟨e, vs, h1 l _ (E.lW (E.ow i l xs hi)) hl, dn.mono hs⟩
    | well w => exact q
    | raw v => exact q
theorem Env.ext (E : Env K B G L H σ Γ) (h : Same H H') : Env K B G L H' σ Γ ∧ Same (hid (L ++ B.M) H) (hid (L ++ B.M) H') :=
  E.step (fun a o _ e => h a o e) fun w hw => by
    obtain ⟨n, b, c, e, q⟩ := E.ws w hw
    exact ⟨n, b, c, h _ _ e, q⟩
theorem same_upd {H : Hp} {p : Addr} {o : HO} (h : H p = none) : Same H (upd H p o) := fun b x e => by
  rw [upd_ne (ne_of_none e h)]
  exact e
theorem hid_new {M : List Addr} {H : Hp} {p : Addr} {o : HO} (h : p ∉ M) : hid M (upd H p o) p = some o := by
  rw [hid_out h]
  exact upd_same
theorem Env.get (E : Env K B G L H σ Γ) {i : Nat} {x : PyData} (h : Γ[i]? = some (.d x)) : ∃ v, σ[i]? = some (some v) ∧ Dn K (hid (L ++ B.M) H) v x := by
  obtain ⟨v, e, dn⟩ := E.sl i _ h
  refine ⟨v, ?_, dn⟩
  cases q : σ[i]? with
  | none => rw [q] at e; cases e
  | some ov =>
    rw [q] at e
    rw [show ov = some v from e]
theorem Env.getW (E : Env K B G L H σ Γ) {i : Nat} {w : Addr} (h : Γ[i]? = some (.well w)) : σ[i]? = some (some (.ref w)) := by
  have e := E.sl i _ h
  cases q : σ[i]? with
  | none => rw [q] at e; cases e
  | some ov =>
    rw [q] at e
    rw [show ov = some (.ref w) from e]
theorem Env.getO (E : Env K B G L H σ Γ) {i : Nat} {l : Addr} {xs : List PyData} (h : Γ[i]? = some (.own l xs)) : σ[i]? = some (some (.ref l)) ∧ ∃ vs, H l = some (.lst vs) ∧ DnA K (hid (L ++ B.M) H) vs xs := by
  have e := E.sl i _ h
  obtain ⟨e, r⟩ := e
  refine ⟨?_, r⟩
  cases q : σ[i]? with
  | none => rw [q] at e; cases e
  | some ov =>
    rw [q] at e
    rw [show ov = some (.ref l) from e]
/-- a slot gets data -/
theorem Env.put (E : Env K B G L H σ Γ) (i : Nat) {v : V} {x : PyData} (h : Dn K (hid (L ++ B.M) H) v x) : Env K B G L H (σ.set i (some v)) (Γ.set i (.d x)) := by
  have g : ∀ (j : Nat) (s : Sl), (Γ.set i (.d x))[j]? = some s → (j = i ∧ s = .d x ∧ j < Γ.length) ∨ (j ≠ i ∧ Γ[j]? = some s) := fun j s hj => by
    by_cases e : j = i
    · subst e
      refine .inl ⟨rfl, ?_⟩
      by_cases hl : j < Γ.length
      · rw [List.getElem?_set_self hl] at hj
        exact ⟨(Option.some.inj hj).symm, hl⟩
      · rw [List.getElem?_eq_none (by rw [List.length_set]; omega)] at hj
        cases hj
    · rw [List.getElem?_set_ne (Ne.symm e)] at hj
      exact .inr ⟨e, hj⟩
  refine ⟨E.fr, E.ws, E.wm, E.lm, E.lo, by rw [List.length_set, List.length_set]; exact E.len, fun j s hj => ?_, E.gh, fun j l xs hj => ?_, fun j k l xs ys hj hk => ?_, fun j w hj => ?_⟩
  · rcases g j s hj with ⟨rfl, rfl, hl⟩ | ⟨e, hj⟩
    · refine ⟨v, ?_, h⟩
      rw [List.getElem?_set_self (by rw [E.len]; exact hl)]
      rfl
    · rw [List.getElem?_set_ne (Ne.symm e)]
      exact E.sl j s hj
  · rcases g j _ hj with ⟨_, e, _⟩ | ⟨_, hj⟩
    · cases e
    · exact E.ow j l xs hj
  · rcases g j _ hj with ⟨_, e, _⟩ | ⟨_, hj⟩
    · cases e
    · rcases g k _ hk with ⟨_, e, _⟩ | ⟨_, hk⟩
      · cases e
      · exact E.ou j k l xs ys hj hk
  · rcases g j _ hj with ⟨_, e, _⟩ | ⟨_, hj⟩
    · cases e
    · exact E.we j w hj
end

/-! ### what evaluates to what -/
section
variable (K : PySem.W.Frag) (B : Bs) (G : List Hp) (L : List Addr) (Γ : List Sl)
/-- the step that an evaluation may take -/
structure Go (H H' : Hp) (σ : L2.St) : Prop where
  env : Env K B G L H' σ Γ
  sm : Same (hid (L ++ B.M) H) (hid (L ++ B.M) H')
  kp : ∀ l ∈ L, ∀ o, H l = some o → H' l = some o
  rl : ∀ a o, a ∉ B.Ws → H a = some o → H' a = some o
def EvP (te : TE) (k : PyData → Prop) : Prop := ∀ (σ : L2.St) (H : Hp) (Q : VK), Env K B G L H σ Γ →
  (∀ v d H', Go K B G L Γ H H' σ → Dn K (hid (L ++ B.M) H') v d → k d → Q v H') → te σ H Q
/-- a new list -/
def EvN (te : TE) (k : List PyData → Prop) : Prop := ∀ (σ : L2.St) (H : Hp) (Q : VK), Env K B G L H σ Γ →
  (∀ p vs ds H', Go K B G L Γ H H' σ → H p = none → H' p = some (.lst vs) → DnA K (hid (p :: (L ++ B.M)) H') vs ds → k ds → Q (.ref p) H') → te σ H Q
def EvA (ta : TA) (k : List PyData → Prop) : Prop := ∀ (σ : L2.St) (H : Hp) (Q : List V → Hp → Prop), Env K B G L H σ Γ →
  (∀ vs ds H', Go K B G L Γ H H' σ → DnA K (hid (L ++ B.M) H') vs ds → k ds → Q vs H') → ta σ H Q
def EvT (tt : TT) (k : Bool → Prop) : Prop := ∀ (σ : L2.St) (H : Hp) (Q : Bool → Hp → Prop), Env K B G L H σ Γ →
  (∀ b H', Go K B G L Γ H H' σ → k b → Q b H') → tt σ H Q
/-- an operation on values -/
def ROk (r : R2) (x y : PyData) (k : PyData → Prop) : Prop := ∀ (σ : L2.St) (H : Hp) (Q : VK) (v u : V), Env K B G L H σ Γ → Dn K (hid (L ++ B.M) H) v x → Dn K (hid (L ++ B.M) H) u y →
  (∀ z d H', Go K B G L Γ H H' σ → Dn K (hid (L ++ B.M) H') z d → k d → Q z H') → r v u H Q
def UOk (r : V → Hp → VK → Prop) (x : PyData) (k : PyData → Prop) : Prop := ∀ (σ : L2.St) (H : Hp) (Q : VK) (v : V), Env K B G L H σ Γ → Dn K (hid (L ++ B.M) H) v x →
  (∀ z d H', Go K B G L Γ H H' σ → Dn K (hid (L ++ B.M) H') z d → k d → Q z H') → r v H Q
def COk (r : List V → Hp → VK → Prop) (ds : List PyData) (k : PyData → Prop) : Prop := ∀ (σ : L2.St) (H : Hp) (Q : VK) (vs : List V), Env K B G L H σ Γ → DnA K (hid (L ++ B.M) H) vs ds →
  (∀ z d H', Go K B G L Γ H H' σ → Dn K (hid (L ++ B.M) H') z d → k d → Q z H') → r vs H Q
end

section
variable {K : PySem.W.Frag} {B : Bs} {G : List Hp} {L : List Addr} {Γ : List Sl} {H H' H2 : Hp} {σ : L2.St}
theorem Go.refl (E : Env K B G L H σ Γ) : Go K B G L Γ H H σ := ⟨E, Same.refl _, fun _ _ _ e => e, fun _ _ _ e => e⟩
theorem Go.trans (a : Go K B G L Γ H H' σ) (b : Go K B G L Γ H' H2 σ) : Go K B G L Γ H H2 σ := ⟨b.env, a.sm.trans b.sm, fun l hl o e => b.kp l hl o (a.kp l hl o e), fun c o w e => b.rl c o w (a.rl c o w e)⟩
/-- all but the wells is kept -/
theorem Go.step (E : Env K B G L H σ Γ) (h1 : ∀ a o, a ∉ B.Ws → H a = some o → H' a = some o) (h2 : ∀ w ∈ B.Ws, WellAt H' w) : Go K B G L Γ H H' σ := by
  obtain ⟨a, b⟩ := E.step h1 h2
  exact ⟨a, b, fun l hl o e => h1 l o (E.lW hl) e, h1⟩
theorem Go.new (E : Env K B G L H σ Γ) {p : Addr} {o : HO} (h : H p = none) : Go K B G L Γ H (upd H p o) σ := by
  obtain ⟨a, b⟩ := E.ext (same_upd (o := o) h)
  exact ⟨a, b, fun l hl o e => same_upd h l o e, fun c o _ e => same_upd h c o e⟩

variable {te ta tb tc : TE} {tt tu : TT} {tr : TA} {k : PyData → Prop} {x y : PyData}
theorem EvP.mono {k' : PyData → Prop} (h : EvP K B G L Γ te k) (f : ∀ d, k d → k' d) : EvP K B G L Γ te k' := fun σ H Q E q => h σ H Q E fun v d H' g dn hk => q v d H' g dn (f d hk)
theorem ev_var {i : Nat} (h : Γ[i]? = some (.d x)) (hk : k x) : EvP K B G L Γ (tVar i) k := fun σ H Q E q => by
  obtain ⟨v, e, dn⟩ := E.get h
  exact ⟨v, e, q v x H (Go.refl E) dn hk⟩
theorem ev_int {i : Int} (hk : k (.int i)) : EvP K B G L Γ (tC (.int i)) k := fun σ H Q E q => q _ _ H (Go.refl E) (.int i) hk
theorem ev_bl {b : Bool} (hk : k (.bool b)) : EvP K B G L Γ (tC (.bl b)) k := fun σ H Q E q => q _ _ H (Go.refl E) (.bl b) hk
theorem ev_non (hk : k .none) : EvP K B G L Γ (tC .non) k := fun σ H Q E q => q _ _ H (Go.refl E) .non hk
theorem ev_str {s : Str} (hk : k (.str s)) : EvP K B G L Γ (tC (.str s)) k := fun σ H Q E q => q _ _ H (Go.refl E) (.str s) hk
theorem ev_op {r : R2} (h : EvP K B G L Γ ta fun x => EvP K B G L Γ tb fun y => ROk K B G L Γ r x y k) : EvP K B G L Γ (tOp r ta tb) k := fun σ H Q E q =>
  h σ H _ E fun v x H1 g1 dn1 h1 => h1 σ H1 _ g1.env fun u y H2 g2 dn2 h2 => h2 σ H2 Q v u g2.env (dn1.mono g2.sm) dn2 fun z d H3 g3 dn3 hk => q z d H3 ((g1.trans g2).trans g3) dn3 hk
theorem ev_un {r : V → Hp → VK → Prop} (h : EvP K B G L Γ ta fun x => UOk K B G L Γ r x k) : EvP K B G L Γ (tUn r ta) k := fun σ H Q E q =>
  h σ H _ E fun v x H1 g1 dn1 h1 => h1 σ H1 Q v g1.env dn1 fun z d H3 g3 dn3 hk => q z d H3 (g1.trans g3) dn3 hk
theorem ev_cb {r : List V → Hp → VK → Prop} (h : EvA K B G L Γ tr fun ds => COk K B G L Γ r ds k) : EvP K B G L Γ (tCB r tr) k := fun σ H Q E q =>
  h σ H _ E fun vs ds H1 g1 dn1 h1 => h1 σ H1 Q vs g1.env dn1 fun z d H3 g3 dn3 hk => q z d H3 (g1.trans g3) dn3 hk
theorem ev_if (h : EvT K B G L Γ tt fun b => (b = true → EvP K B G L Γ ta k) ∧ (b = false → EvP K B G L Γ tb k)) : EvP K B G L Γ (tIf tt ta tb) k := fun σ H Q E q =>
  h σ H _ E fun b H1 g1 ⟨h1, h2⟩ => by
    cases b with
    | true => exact iteT (h1 rfl σ H1 Q g1.env fun v d H3 g3 dn hk => q v d H3 (g1.trans g3) dn hk)
    | false => exact iteF (h2 rfl σ H1 Q g1.env fun v d H3 g3 dn hk => q v d H3 (g1.trans g3) dn hk)
theorem dn_bool {v : V} {b : Bool} (h : Dn K H v (.bool b)) : v = .bl b := by cases h; rfl
theorem dn_int {v : V} {i : Int} (h : Dn K H v (.int i)) : v = .int i := by cases h; rfl
theorem dn_str {v : V} {i : Str} (h : Dn K H v (.str i)) : v = .str i := by cases h; rfl
theorem ev_andV (h : EvP K B G L Γ ta fun x => ∃ b, x = .bool b ∧ (b = true → EvP K B G L Γ tb k) ∧ (b = false → k (.bool false))) : EvP K B G L Γ (tAndV ta tb) k := fun σ H Q E q =>
  h σ H _ E fun v x H1 g1 dn1 ⟨b, e, h1, h2⟩ => by
    subst e
    refine ⟨b, dn_bool dn1, ?_⟩
    cases b with
    | true => exact iteT (h1 rfl σ H1 Q g1.env fun v d H3 g3 dn hk => q v d H3 (g1.trans g3) dn hk)
    | false => exact iteF (q _ _ H1 g1 (.bl false) (h2 rfl))
theorem ev_orV (h : EvP K B G L Γ ta fun x => ∃ b, x = .bool b ∧ (b = false → EvP K B G L Γ tb k) ∧ (b = true → k (.bool true))) : EvP K B G L Γ (tOrV ta tb) k := fun σ H Q E q =>
  h σ H _ E fun v x H1 g1 dn1 ⟨b, e, h1, h2⟩ => by
    subst e
    refine ⟨b, dn_bool dn1, ?_⟩
    cases b with
    | false => exact iteF (h1 rfl σ H1 Q g1.env fun v d H3 g3 dn hk => q v d H3 (g1.trans g3) dn hk)
    | true => exact iteT (q _ _ H1 g1 (.bl true) (h2 rfl))
theorem ev_notV (h : EvP K B G L Γ ta fun x => ∃ b, x = .bool b ∧ k (.bool (!b))) : EvP K B G L Γ (tNotV ta) k := fun σ H Q E q =>
  h σ H _ E fun v x H1 g1 dn1 ⟨b, e, h1⟩ => by
    subst e
    exact ⟨b, dn_bool dn1, q _ _ H1 g1 (.bl _) h1⟩
/-! tests -/
theorem et_test {kb : Bool → Prop} (h : EvP K B G L Γ te fun x => ∃ b, x = .bool b ∧ kb b) : EvT K B G L Γ (tTest te) kb := fun σ H Q E q =>
  h σ H _ E fun v x H1 g1 dn1 ⟨b, e, h1⟩ => by
    subst e
    exact ⟨b, dn_bool dn1, q b H1 g1 h1⟩
theorem et_B {kb : Bool → Prop} (h : EvP K B G L Γ te fun x => ∃ b, x = .bool b ∧ kb b) : EvT K B G L Γ (tB te) kb := et_test h
theorem et_and {kb : Bool → Prop} (h : EvT K B G L Γ tt fun b => (b = true → EvT K B G L Γ tu kb) ∧ (b = false → kb false)) : EvT K B G L Γ (tAnd tt tu) kb := fun σ H Q E q =>
  h σ H _ E fun b H1 g1 ⟨h1, h2⟩ => by
    cases b with
    | true => exact iteT (h1 rfl σ H1 Q g1.env fun b H3 g3 hk => q b H3 (g1.trans g3) hk)
    | false => exact iteF (q false H1 g1 (h2 rfl))
theorem et_or {kb : Bool → Prop} (h : EvT K B G L Γ tt fun b => (b = false → EvT K B G L Γ tu kb) ∧ (b = true → kb true)) : EvT K B G L Γ (tOr tt tu) kb := fun σ H Q E q =>
  h σ H _ E fun b H1 g1 ⟨h1, h2⟩ => by
    cases b with
    | false => exact iteF (h1 rfl σ H1 Q g1.env fun b H3 g3 hk => q b H3 (g1.trans g3) hk)
    | true => exact iteT (q true H1 g1 (h2 rfl))
theorem et_not {kb : Bool → Prop} (h : EvT K B G L Γ tt fun b => kb (!b)) : EvT K B G L Γ (tNot tt) kb := fun σ H Q E q =>
  h σ H _ E fun b H1 g1 h1 => q (!b) H1 g1 h1
theorem EvT.mono {kb kb' : Bool → Prop} (h : EvT K B G L Γ tt kb) (f : ∀ b, kb b → kb' b) : EvT K B G L Γ tt kb' := fun σ H Q E q => h σ H Q E fun b H' g hk => q b H' g (f b hk)
/-! arguments -/
theorem ea_nil {kl : List PyData → Prop} (h : kl []) : EvA K B G L Γ tNil kl := fun σ H Q E q => q [] [] H (Go.refl E) .nil h
theorem ea_cons {kl : List PyData → Prop} (h : EvP K B G L Γ te fun d => EvA K B G L Γ tr fun ds => kl (d :: ds)) : EvA K B G L Γ (tCons te tr) kl := fun σ H Q E q =>
  h σ H _ E fun v d H1 g1 dn1 h1 => h1 σ H1 _ g1.env fun vs ds H2 g2 dn2 hk => q (v :: vs) (d :: ds) H2 (g1.trans g2) (.cons (dn1.mono g2.sm) dn2) hk
theorem sz_ok {n : Nat} (h : n ≤ 1000000) : n ≤ sizeLine := Nat.le_trans h (by decide)
theorem ev_tup (h : EvA K B G L Γ tr fun ds => ds.length ≤ 1000000 ∧ k (.tuple ds)) : EvP K B G L Γ (tTup tr) k := fun σ H Q E q =>
  h σ H _ E fun vs ds H1 g1 dn1 ⟨hl, hk⟩ => ⟨by rw [dn1.length]; exact sz_ok hl, fun p hp => by
    have g2 := Go.new (o := .tup vs) g1.env hp
    exact q _ _ _ (g1.trans g2) (.tup (.inl (.inl (hid_new (g1.env.newM hp)))) (dn1.mono g2.sm)) hk⟩
theorem hid_none {M : List Addr} {H : Hp} {p : Addr} (h : H p = none) : hid M H p = none := by
  unfold hid
  split
  · rfl
  · exact h
theorem hid_keep {M : List Addr} {H H' : Hp} {p : Addr} (hp : H p = none) (h : Same H H') : Same (hid M H) (hid (p :: M) H') := fun a o e => by
  obtain ⟨q, e⟩ := hid_some e
  rw [hid_out (fun z => by
    rcases List.mem_cons.mp z with z | z
    · rw [z, hp] at e; cases e
    · exact q z)]
  exact h a o e
theorem en_lst {kl : List PyData → Prop} (h : EvA K B G L Γ tr fun ds => ds.length ≤ 1000000 ∧ kl ds) : EvN K B G L Γ (tLst tr) kl := fun σ H Q E q =>
  h σ H _ E fun vs ds H1 g1 dn1 ⟨hl, hk⟩ => ⟨by rw [dn1.length]; exact sz_ok hl, fun p hp => by
    have g2 := Go.new (o := .lst vs) g1.env hp
    refine q p vs ds _ (g1.trans g2) ?_ upd_same (dn1.mono (hid_keep hp (same_upd hp))) hk
    cases e : H p with
    | none => rfl
    | some o =>
      exfalso
      by_cases w : p ∈ L ++ B.M
      · obtain ⟨o', e'⟩ := g1.env.alive p w
        rw [hp] at e'; cases e'
      · have := g1.sm p o (by rw [hid_out w]; exact e)
        rw [hid_none hp] at this; cases this⟩
theorem ev_new (h : EvN K B G L Γ te fun ds => k (.list ds)) : EvP K B G L Γ te k := fun σ H Q E q =>
  h σ H Q E fun p vs ds H' g hp e dn hk => q _ _ H' g (.lst (by rw [hid_out (E.newM hp)]; exact e) (dn.mono (hid_less _ fun a ha => List.mem_cons_of_mem _ ha))) hk
theorem ev_lst (h : EvA K B G L Γ tr fun ds => ds.length ≤ 1000000 ∧ k (.list ds)) : EvP K B G L Γ (tLst tr) k := ev_new (en_lst h)
end
end DL
namespace DL
open PySem PySem.Spec PyProof.Rows L2
section
variable {K : PySem.W.Frag} {B : Bs} {G : List Hp} {L : List Addr} {Γ : List Sl} {H H' H2 : Hp} {σ : L2.St}
variable {te ta tb tc : TE} {tt tu : TT} {tr : TA} {k : PyData → Prop} {x y : PyData}

/-! ### operators -/
theorem rok_i0 {f : Int → Int → Int} {i j : Int} (hk : k (.int (f i j))) : ROk K B G L Γ (rI0 fun i j => .int (f i j)) (.int i) (.int j) k := fun σ H Q v u E d1 d2 q =>
  ⟨i, j, dn_int d1, dn_int d2, q _ _ H (Go.refl E) (.int _) hk⟩
theorem rok_b0 {f : Int → Int → Bool} {i j : Int} (hk : k (.bool (f i j))) : ROk K B G L Γ (rI0 fun i j => .bl (f i j)) (.int i) (.int j) k := fun σ H Q v u E d1 d2 q =>
  ⟨i, j, dn_int d1, dn_int d2, q _ _ H (Go.refl E) (.bl _) hk⟩
theorem rok_i {C : Int → Int → Prop} {f : Int → Int → Int} {i j : Int} (hc : C i j) (hk : k (.int (f i j))) : ROk K B G L Γ (rI C fun i j => .int (f i j)) (.int i) (.int j) k := fun σ H Q v u E d1 d2 q =>
  ⟨i, j, dn_int d1, dn_int d2, hc, q _ _ H (Go.refl E) (.int _) hk⟩
theorem rok_eqI {i j : Int} (hk : k (.bool (decide (i = j)))) : ROk K B G L Γ rEq (.int i) (.int j) k := fun σ H Q v u E d1 d2 q => by
  rw [dn_int d1, dn_int d2]
  refine ⟨rfl, ?_⟩
  have e : decide ((V.int i) = V.int j) = decide (i = j) := by
    by_cases h : i = j
    · subst h; simp
    · rw [decide_eq_false h, decide_eq_false (fun z => h (V.int.inj z))]
  rw [e]
  exact q _ _ H (Go.refl E) (.bl _) hk
theorem rok_neI {i j : Int} (hk : k (.bool (!decide (i = j)))) : ROk K B G L Γ rNe (.int i) (.int j) k := fun σ H Q v u E d1 d2 q => by
  rw [dn_int d1, dn_int d2]
  refine ⟨rfl, ?_⟩
  have e : decide ((V.int i) = V.int j) = decide (i = j) := by
    by_cases h : i = j
    · subst h; simp
    · rw [decide_eq_false h, decide_eq_false (fun z => h (V.int.inj z))]
  rw [e]
  exact q _ _ H (Go.refl E) (.bl _) hk
theorem rok_neS {i j : Str} (hk : k (.bool (!decide (i = j)))) : ROk K B G L Γ rNe (.str i) (.str j) k := fun σ H Q v u E d1 d2 q => by
  rw [dn_str d1, dn_str d2]
  refine ⟨rfl, ?_⟩
  have e : decide ((V.str i) = V.str j) = decide (i = j) := by
    by_cases h : i = j
    · subst h; simp
    · rw [decide_eq_false h, decide_eq_false (fun z => h (V.str.inj z))]
  rw [e]
  exact q _ _ H (Go.refl E) (.bl _) hk
theorem rok_isB {i j : Bool} (hk : k (.bool (decide (i = j)))) : ROk K B G L Γ rIsB (.bool i) (.bool j) k := fun σ H Q v u E d1 d2 q =>
  ⟨i, j, dn_bool d1, dn_bool d2, q _ _ H (Go.refl E) (.bl _) hk⟩
theorem rok_notB {i j : Bool} (hk : k (.bool (!decide (i = j)))) : ROk K B G L Γ rNotB (.bool i) (.bool j) k := fun σ H Q v u E d1 d2 q =>
  ⟨i, j, dn_bool d1, dn_bool d2, q _ _ H (Go.refl E) (.bl _) hk⟩
theorem dna_at {vs : List V} {ds : List PyData} (h : DnA K H vs ds) {i : Int} {d : PyData} (e : atI ds i = some d) : ∃ v, atI vs i = some v ∧ Dn K H v d := by
  unfold atI at e ⊢
  rw [h.length]
  cases q : ixN ds.length i with
  | none => rw [q] at e; cases e
  | some j =>
    rw [q] at e
    exact h.get e
theorem rok_ixT {ds : List PyData} {i : Int} {d : PyData} (e : atI ds i = some d) (hk : k d) : ROk K B G L Γ (rIxT K) (.tuple ds) (.int i) k := fun σ H Q v u E d1 d2 q => by
  cases d1 with
  | tup h1 h2 =>
    obtain ⟨w, e2, dn⟩ := dna_at h2 e
    exact ⟨_, _, i, w, rfl, dn_int d2, Same.sqt (hid_sub _ _) h1, e2, q _ _ H (Go.refl E) dn hk⟩
theorem rok_ixL {ds : List PyData} {i : Int} {d : PyData} (e : atI ds i = some d) (hk : k d) : ROk K B G L Γ (rIxL K) (.list ds) (.int i) k := fun σ H Q v u E d1 d2 q => by
  cases d1 with
  | lst h1 h2 =>
    obtain ⟨w, e2, dn⟩ := dna_at h2 e
    exact ⟨_, _, i, w, rfl, dn_int d2, .inl (.inl (hid_sub _ _ _ _ h1)), e2, q _ _ H (Go.refl E) dn hk⟩
theorem rok_ixsT {ds : List PyData} {i : Int} {d : PyData} (e : atI ds i = some d) (hk : k d) : ROk K B G L Γ (rIx K) (.tuple ds) (.int i) k := fun σ H Q v u E d1 d2 q =>
  .inr (.inl (rok_ixT e hk σ H Q v u E d1 d2 q))
theorem rok_ixsL {ds : List PyData} {i : Int} {d : PyData} (e : atI ds i = some d) (hk : k d) : ROk K B G L Γ (rIx K) (.list ds) (.int i) k := fun σ H Q v u E d1 d2 q =>
  .inl (rok_ixL e hk σ H Q v u E d1 d2 q)
/-- tuple + tuple -/
theorem rok_catT {ds es : List PyData} (hl : ds.length + es.length ≤ 1000000) (hk : k (.tuple (ds ++ es))) : ROk K B G L Γ (rCatA K) (.tuple ds) (.tuple es) k := fun σ H Q v u E d1 d2 q => by
  cases d1 with
  | @tup a xs _ h1 h2 =>
    cases d2 with
    | @tup b ys _ h3 h4 =>
      refine ⟨a, b, xs, ys, rfl, rfl, Same.sqt (hid_sub _ _) h1, Same.sqt (hid_sub _ _) h3, by rw [h2.length, h4.length]; exact sz_ok hl, fun e => ?_, fun _ e => ?_, fun _ _ p hp => ?_⟩
      · subst e
        have z : ds = [] := List.eq_nil_of_length_eq_zero h2.length.symm
        subst z
        exact q _ _ H (Go.refl E) (.tup h3 h4) hk
      · subst e
        have z : es = [] := List.eq_nil_of_length_eq_zero h4.length.symm
        subst z
        rw [List.append_nil] at hk
        exact q _ _ H (Go.refl E) (.tup h1 h2) hk
      · have g := Go.new (o := .tup (xs ++ ys)) E hp
        exact q _ _ _ g (.tup (.inl (.inl (hid_new (E.newM hp)))) (DnA.append (h2.mono g.sm) (h4.mono g.sm))) hk
/-- list + list -/
theorem rok_catL {ds es : List PyData} (hl : ds.length + es.length ≤ 1000000) (hk : k (.list (ds ++ es))) : ROk K B G L Γ rCat (.list ds) (.list es) k := fun σ H Q v u E d1 d2 q => by
  cases d1 with
  | @lst a xs _ h1 h2 =>
    cases d2 with
    | @lst b ys _ h3 h4 =>
      refine ⟨a, b, xs, ys, rfl, rfl, hid_sub _ _ _ _ h1, hid_sub _ _ _ _ h3, by rw [h2.length, h4.length]; exact sz_ok hl, fun p hp => ?_⟩
      have g := Go.new (o := .lst (xs ++ ys)) E hp
      exact q _ _ _ g (.lst (hid_new (E.newM hp)) (DnA.append (h2.mono g.sm) (h4.mono g.sm))) hk
theorem DnA.reps {vs : List V} {ds : List PyData} (h : DnA K H vs ds) : ∀ n : Nat, DnA K H (List.replicate n vs).flatten (List.replicate n ds).flatten
  | 0 => .nil
  | n + 1 => by
    rw [List.replicate_succ, List.replicate_succ, List.flatten_cons, List.flatten_cons]
    exact DnA.append h (DnA.reps h n)
/-! unary -/
theorem uok_neg {i : Int} (hk : k (.int (-i))) : UOk K B G L Γ (rU fun i => .int (-i)) (.int i) k := fun σ H Q v E d1 q => ⟨i, dn_int d1, q _ _ H (Go.refl E) (.int _) hk⟩

/-! ### slices -/
def EvO (K : PySem.W.Frag) (B : Bs) (G : List Hp) (L : List Addr) (Γ : List Sl) (to : TO) (ko : Option Int → Prop) : Prop := ∀ (σ : L2.St) (H : Hp) (Q : Option Int → Hp → Prop), Env K B G L H σ Γ →
  (∀ o H', Go K B G L Γ H H' σ → ko o → Q o H') → to σ H Q
theorem eo_no {ko : Option Int → Prop} (h : ko none) : EvO K B G L Γ tNoPart ko := fun σ H Q E q => q none H (Go.refl E) h
theorem eo_some {ko : Option Int → Prop} (h : EvP K B G L Γ te fun d => ∃ i, d = .int i ∧ ko (some i)) : EvO K B G L Γ (tPart te) ko := fun σ H Q E q =>
  h σ H _ E fun v d H1 g1 dn ⟨i, e, hk⟩ => by
    subst e
    exact ⟨i, dn_int dn, q _ H1 g1 hk⟩
def cutD (ds : List PyData) (lo hi : Option Int) : List PyData := (ds.drop (HT.sIx ds.length 0 lo)).take (HT.sIx ds.length ds.length hi - HT.sIx ds.length 0 lo)
theorem dna_cut {vs : List V} {ds : List PyData} (h : DnA K H vs ds) (lo hi : Option Int) : DnA K H (cutV vs lo hi) (cutD ds lo hi) := by
  unfold cutV cutD
  rw [h.length]
  exact (h.drop _).take _
def SOk (K : PySem.W.Frag) (B : Bs) (G : List Hp) (L : List Addr) (Γ : List Sl) (r : V → Option Int → Option Int → Hp → VK → Prop) (x : PyData) (lo hi : Option Int) (k : PyData → Prop) : Prop :=
  ∀ (σ : L2.St) (H : Hp) (Q : VK) (v : V), Env K B G L H σ Γ → Dn K (hid (L ++ B.M) H) v x → (∀ z d H', Go K B G L Γ H H' σ → Dn K (hid (L ++ B.M) H') z d → k d → Q z H') → r v lo hi H Q
theorem ev_sl {r : V → Option Int → Option Int → Hp → VK → Prop} {tl th : TO} (h : EvP K B G L Γ te fun x => EvO K B G L Γ tl fun lo => EvO K B G L Γ th fun hi => SOk K B G L Γ r x lo hi k) : EvP K B G L Γ (tSl r te tl th) k := fun σ H Q E q =>
  h σ H _ E fun v x H1 g1 dn1 h1 => h1 σ H1 _ g1.env fun lo H2 g2 h2 => h2 σ H2 _ g2.env fun hi H3 g3 h3 => h3 σ H3 Q v g3.env ((dn1.mono g2.sm).mono g3.sm) fun z d H4 g4 dn4 hk => q z d H4 (((g1.trans g2).trans g3).trans g4) dn4 hk
theorem sok_tup {ds : List PyData} {lo hi : Option Int} (hk : k (.tuple (cutD ds lo hi))) : SOk K B G L Γ (rSlA K) (.tuple ds) lo hi k := fun σ H Q v E d1 q => by
  cases d1 with
  | @tup a xs _ e1 h2 =>
    refine ⟨a, xs, rfl, Same.sqt (hid_sub _ _) e1, fun e => ?_, fun _ p hp => ?_⟩
    · have z : cutD ds lo hi = ds := by
        unfold cutD
        rw [← h2.length, e.1, e.2, h2.length]
        simp
      rw [z] at hk
      exact q _ _ H (Go.refl E) (.tup e1 h2) hk
    · have g := Go.new (o := .tup (cutV xs lo hi)) E hp
      exact q _ _ _ g (.tup (.inl (.inl (hid_new (E.newM hp)))) (dna_cut (h2.mono g.sm) lo hi)) hk
theorem sok_lst {ds : List PyData} {lo hi : Option Int} (hk : k (.list (cutD ds lo hi))) : SOk K B G L Γ (rSlL K) (.list ds) lo hi k := fun σ H Q v E d1 q => by
  cases d1 with
  | @lst a xs _ e1 h2 =>
    refine ⟨a, xs, rfl, .inl (.inl (hid_sub _ _ _ _ e1)), fun p hp => ?_⟩
    have g := Go.new (o := .lst (cutV xs lo hi)) E hp
    exact q _ _ _ g (.lst (hid_new (E.newM hp)) (dna_cut (h2.mono g.sm) lo hi)) hk

/-! ### calls of built-ins -/
def rLenQ (K : PySem.W.Frag) : List V → Hp → VK → Prop := fun xs H Q => ∃ p ys, xs = [.ref p] ∧ (SqL K H p ys ∨ SqT K H p ys) ∧ Q (.int ys.length) H
theorem cok_lenT {ds : List PyData} (hk : k (.int ds.length)) : COk K B G L Γ (fun xs H Q => ∃ p ys, xs = [.ref p] ∧ (SqL K H p ys ∨ SqT K H p ys) ∧ Q (.int ys.length) H) [.tuple ds] k := fun σ H Q vs E d1 q => by
  cases d1 with
  | cons h1 h2 =>
    cases h2
    cases h1 with
    | @tup a xs _ e1 h2 =>
      refine ⟨a, xs, rfl, .inr (Same.sqt (hid_sub _ _) e1), ?_⟩
      rw [h2.length]
      exact q _ _ H (Go.refl E) (.int _) hk
theorem cok_lenL {ds : List PyData} (hk : k (.int ds.length)) : COk K B G L Γ (fun xs H Q => ∃ p ys, xs = [.ref p] ∧ (SqL K H p ys ∨ SqT K H p ys) ∧ Q (.int ys.length) H) [.list ds] k := fun σ H Q vs E d1 q => by
  cases d1 with
  | cons h1 h2 =>
    cases h2
    cases h1 with
    | @lst a xs _ e1 h2 =>
      refine ⟨a, xs, rfl, .inl (.inl (.inl (hid_sub _ _ _ _ e1))), ?_⟩
      rw [h2.length]
      exact q _ _ H (Go.refl E) (.int _) hk
theorem cok_abs {i : Int} (hk : k (.int (if i < 0 then -i else i))) : COk K B G L Γ (fun xs H Q => ∃ i, xs = [.int i] ∧ Q (.int (if i < 0 then -i else i)) H) [.int i] k := fun σ H Q vs E d1 q => by
  cases d1 with
  | cons h1 h2 =>
    cases h2
    cases h1
    exact ⟨i, rfl, q _ _ H (Go.refl E) (.int _) hk⟩
theorem cok_intI {i : Int} (hk : k (.int i)) : COk K B G L Γ (fun xs H Q => (∃ i, xs = [.int i] ∧ Q (.int i) H) ∨ ∃ k, xs = [.bl k] ∧ Q (.int (if k then 1 else 0)) H) [.int i] k := fun σ H Q vs E d1 q => by
  cases d1 with
  | cons h1 h2 =>
    cases h2
    cases h1
    exact .inl ⟨i, rfl, q _ _ H (Go.refl E) (.int _) hk⟩
theorem cok_gcd {i j : Int} (hk : k (.int (Nat.gcd i.natAbs j.natAbs : Nat))) : COk K B G L Γ rGcd [.int i, .int j] k := fun σ H Q vs E d1 q => by
  cases d1 with
  | cons h1 h2 =>
    cases h2 with
    | cons h2 h3 =>
      cases h3
      cases h1
      cases h2
      exact ⟨i, j, rfl, q _ _ H (Go.refl E) (.int _) hk⟩
theorem cok_all {bs : List Bool} (hk : k (.bool (bs.all id))) : COk K B G L Γ (rAll K) [.list (bs.map .bool)] k := fun σ H Q vs E d1 q => by
  cases d1 with
  | cons h1 h2 =>
    cases h2
    cases h1 with
    | @lst a xs _ e1 h2 =>
      have e := h2.bools
      subst e
      exact ⟨a, bs, rfl, .inl (.inl (hid_sub _ _ _ _ e1)), q _ _ H (Go.refl E) (.bl _) hk⟩
theorem Go.fresh (E : Env K B G L H σ Γ) (g : Go K B G L Γ H H' σ) {p : Addr} (hp : H' p = none) : H p = none := by
  cases e : H p with
  | none => rfl
  | some o =>
    exfalso
    by_cases w : p ∈ L ++ B.M
    · obtain ⟨o', e'⟩ := g.env.alive p w
      rw [hp] at e'; cases e'
    · have := g.sm p o (by rw [hid_out w]; exact e)
      rw [hid_none hp] at this; cases this
theorem en_list {kl : List PyData → Prop} (h : EvP K B G L Γ te fun d => ∃ ds, (d = .tuple ds ∨ d = .list ds) ∧ kl ds) :
    EvN K B G L Γ (tCB (fun xs H Q => ∃ p ys, xs = [.ref p] ∧ (SqL K H p ys ∨ SqT K H p ys) ∧ ∀ l, H l = none → Q (.ref l) (upd H l (.lst ys))) (tCons te tNil)) kl := fun σ H Q E q =>
  h σ H _ E fun v d H1 g1 dn ⟨ds, e, hk⟩ => by
    rcases e with rfl | rfl
    · cases dn with
      | @tup a xs _ e1 h2 =>
        refine ⟨a, xs, rfl, .inr (Same.sqt (hid_sub _ _) e1), fun l hl => ?_⟩
        have g2 := Go.new (o := .lst xs) g1.env hl
        exact q l xs ds _ (g1.trans g2) (Go.fresh E g1 hl) upd_same (h2.mono (hid_keep hl (same_upd hl))) hk
    · cases dn with
      | @lst a xs _ e1 h2 =>
        refine ⟨a, xs, rfl, .inl (.inl (.inl (hid_sub _ _ _ _ e1))), fun l hl => ?_⟩
        have g2 := Go.new (o := .lst xs) g1.env hl
        exact q l xs ds _ (g1.trans g2) (Go.fresh E g1 hl) upd_same (h2.mono (hid_keep hl (same_upd hl))) hk
/-- tuple(x) of a list (data) -/
theorem cok_tupL {ds : List PyData} (hk : k (.tuple ds)) : COk K B G L Γ (fun xs H Q => ∃ p ys, xs = [.ref p] ∧ ((SqL K H p ys ∧ ∀ l, H l = none → Q (.ref l) (upd H l (.tup ys))) ∨ (SqT K H p ys ∧ Q (.ref p) H))) [.list ds] k := fun σ H Q vs E d1 q => by
  cases d1 with
  | cons h1 h2 =>
    cases h2
    cases h1 with
    | @lst a xs _ e1 h2 =>
      refine ⟨a, xs, rfl, .inl ⟨.inl (.inl (hid_sub _ _ _ _ e1)), fun l hl => ?_⟩⟩
      have g2 := Go.new (o := .tup xs) E hl
      exact q _ _ _ g2 (.tup (.inl (.inl (hid_new (E.newM hl)))) (h2.mono g2.sm)) hk
/-! ### isinstance -/
def tyD : PyData → String
  | .none => "NoneType"
  | .bool _ => "bool"
  | .int _ => "int"
  | .str _ => "str"
  | .list _ => "list"
  | .tuple _ => "tuple"
  | .dict _ => "dict"
theorem sqt_ty {a : Addr} {xs : List V} (h : SqT K H a xs) : TyX K H (.ref a) (.type "tuple") := by
  rcases h with (h | ⟨o, h⟩) | ⟨o, its, n, h1, h2, _⟩
  · exact .base (.tup h)
  · exact .fTuple h
  · exact .kTuple h1 h2
theorem dn_ty {v : V} {d : PyData} (h : Dn K H v d) : TyX K H v (.type (tyD d)) := by
  cases h with
  | non => exact .base .non
  | bl b => exact .base (.bl b)
  | int i => exact .base (.int i)
  | str x => exact .base (.str x)
  | lst h1 h2 => exact .base (.lst h1)
  | tup h1 h2 => exact sqt_ty h1
  | emp h => exact .base (.dK h)
theorem ev_isi {n : String} (h : EvP K B G L Γ te fun d => ∃ b, kitB (tyD d) n = some b ∧ k (.bool b)) : EvP K B G L Γ (tCB (rIsi K) (tCons te (tCons (tC (.ty n)) tNil))) k := fun σ H Q E q =>
  h σ H _ E fun v d H1 g1 dn ⟨b, e, hk⟩ => ⟨v, .ty n, .type (tyD d), .type n, b, rfl, .ty n, dn_ty (dn.mono (hid_sub _ _)), kit_ty e, q _ _ H1 g1 (.bl b) hk⟩
end
end DL
namespace DL
open PySem PySem.Spec PyProof.Rows L2

/-! ### statements -/
structure PD where
  nx : List Addr → List Sl → Prop
  rt : PyData → Prop
  bk : List Addr → List Sl → Prop := fun _ _ => False
  ct : List Addr → List Sl → Prop := fun _ _ => False
/-- the heap at a def's end -/
structure Out (B : Bs) (H : Hp) : Prop where
  fr : ∀ a o, a ∉ B.Ws → B.H a = some o → H a = some o
  ws : ∀ w ∈ B.Ws, WellAt H w
structure Mt (K : PySem.W.Frag) (B : Bs) (G : List Hp) (P : PD) (D : Ends) : Prop where
  nx : ∀ L Γ σ H, P.nx L Γ → Env K B G L H σ Γ → D.nx σ H
  rt : ∀ v d H, P.rt d → Out B H → Dn K (hid B.M H) v d → D.rt v H
  bk : ∀ L Γ σ H, P.bk L Γ → Env K B G L H σ Γ → D.bk σ H
  ct : ∀ L Γ σ H, P.ct L Γ → Env K B G L H σ Γ → D.ct σ H
def StP (K : PySem.W.Frag) (B : Bs) (G : List Hp) (L : List Addr) (Γ : List Sl) (ts : TS) (P : PD) : Prop := ∀ (σ : L2.St) (H : Hp) (D : Ends), Env K B G L H σ Γ → Mt K B G P D → ts D σ H
section
variable {K : PySem.W.Frag} {B : Bs} {G : List Hp} {L : List Addr} {Γ : List Sl} {H H' H2 : Hp} {σ : L2.St}
variable {te ta tb tc : TE} {tt tu : TT} {tr : TA} {k : PyData → Prop} {x y : PyData} {P P' : PD} {t u : TS}
theorem Env.out (E : Env K B G L H σ Γ) : Out B H := ⟨E.fr, E.ws⟩
theorem hid_M (L M : List Addr) (H : Hp) : Same (hid (L ++ M) H) (hid M H) := hid_less H fun a h => List.mem_append_right _ h
theorem st_seq (h : StP K B G L Γ t { P with nx := fun L' Γ' => StP K B G L' Γ' u P }) : StP K B G L Γ (tSeq t u) P := fun σ H D E M =>
  h σ H { D with nx := u D } E ⟨fun L' Γ' σ' H' hs E' => hs σ' H' D E' M, M.rt, M.bk, M.ct⟩
theorem st_next (h : P.nx L Γ) : StP K B G L Γ tNext P := fun σ H D E M => M.nx L Γ σ H h E
theorem st_asg {i : Nat} (h : EvP K B G L Γ te fun d => P.nx L (Γ.set i (.d d))) : StP K B G L Γ (tAsg te (gName i)) P := fun σ H D E M =>
  h σ H _ E fun v d H1 g1 dn hk => M.nx _ _ _ _ hk (g1.env.put i dn)
theorem st_drop (h : EvP K B G L Γ te fun d => P.nx L Γ) : StP K B G L Γ (tDrop te) P := fun σ H D E M =>
  h σ H _ E fun v d H1 g1 dn hk => M.nx _ _ _ _ hk g1.env
theorem st_ret (h : EvP K B G L Γ te P.rt) : StP K B G L Γ (tRet te) P := fun σ H D E M =>
  h σ H _ E fun v d H1 g1 dn hk => M.rt _ _ _ hk g1.env.out (dn.mono (hid_M _ _ _))
theorem st_if (h : EvT K B G L Γ tt fun b => (b = true → StP K B G L Γ t P) ∧ (b = false → StP K B G L Γ u P)) : StP K B G L Γ (tIfS tt t u) P := fun σ H D E M =>
  h σ H _ E fun b H1 g1 ⟨h1, h2⟩ => by
    cases b with
    | true => exact iteT (h1 rfl σ H1 D g1.env M)
    | false => exact iteF (h2 rfl σ H1 D g1.env M)
/-- what is known of a slot is forgotten -/
theorem Env.weak (E : Env K B G L H σ Γ) (i : Nat) : Env K B G L H σ (Γ.set i .un) := by
  have g : ∀ (j : Nat) (s : Sl), (Γ.set i .un)[j]? = some s → s = .un ∨ Γ[j]? = some s := fun j s hj => by
    by_cases e : j = i
    · subst e
      by_cases hl : j < Γ.length
      · rw [List.getElem?_set_self hl] at hj
        exact .inl (Option.some.inj hj).symm
      · rw [List.getElem?_eq_none (by rw [List.length_set]; omega)] at hj
        cases hj
    · rw [List.getElem?_set_ne (Ne.symm e)] at hj
      exact .inr hj
  refine ⟨E.fr, E.ws, E.wm, E.lm, E.lo, by rw [List.length_set]; exact E.len, fun j s hj => ?_, E.gh, fun j l xs hj => ?_, fun j k l xs ys hj hk => ?_, fun j w hj => ?_⟩
  · rcases g j s hj with rfl | hj
    · trivial
    · exact E.sl j s hj
  · rcases g j _ hj with e | hj
    · cases e
    · exact E.ow j l xs hj
  · rcases g j _ hj with e | hj
    · cases e
    · rcases g k _ hk with e | hk
      · cases e
      · exact E.ou j k l xs ys hj hk
  · rcases g j _ hj with e | hj
    · cases e
    · exact E.we j w hj
/-- several targets -/
def TgP (K : PySem.W.Frag) (B : Bs) (G : List Hp) (L : List Addr) (Γ : List Sl) (tg : TGs) (ds : List PyData) (kx : List Sl → Prop) : Prop :=
  ∀ (σ : L2.St) (H : Hp) (vs : List V) (Q : L2.St → Hp → Prop), Env K B G L H σ Γ → DnA K (hid (L ++ B.M) H) vs ds → (∀ Γ' σ' , Env K B G L H σ' Γ' → kx Γ' → Q σ' H) → tg vs σ H Q
theorem tg_nil {kx : List Sl → Prop} (h : kx Γ) : TgP K B G L Γ gNil [] kx := fun σ H vs Q E d q => by
  cases d
  exact ⟨rfl, q Γ σ E h⟩
theorem tg_cons {i : Nat} {tg : TGs} {d : PyData} {ds : List PyData} {kx : List Sl → Prop} (h : TgP K B G L (Γ.set i (.d d)) tg ds kx) : TgP K B G L Γ (gCons (gName i) tg) (d :: ds) kx := fun σ H vs Q E dn q => by
  cases dn with
  | cons h1 h2 => exact ⟨_, _, rfl, h _ H _ Q (E.put i h1) h2 q⟩
theorem st_unpack {n : Nat} {tg : TGs} (h : EvP K B G L Γ te fun d => ∃ ds, d = .tuple ds ∧ ds.length = n ∧ TgP K B G L Γ tg ds fun Γ' => P.nx L Γ') : StP K B G L Γ (tAsg te (gTup K n tg)) P := fun σ H D E M =>
  h σ H _ E fun v d H1 g1 dn ⟨ds, e, hn, ht⟩ => by
    subst e
    cases dn with
    | @tup a xs _ e1 h2 =>
      exact ⟨a, xs, rfl, Same.sqt (hid_sub _ _) e1, by rw [h2.length]; exact hn, ht σ H1 xs _ g1.env h2 fun Γ' σ' E' hk => M.nx _ _ _ _ hk E'⟩
theorem st_par {i j : Nat} (h : EvA K B G L Γ tr fun ds => ∃ x y, ds = [x, y] ∧ P.nx L ((Γ.set i (.d x)).set j (.d y))) : StP K B G L Γ (tPar i j tr) P := fun σ H D E M =>
  h σ H _ E fun vs ds H1 g1 dn ⟨x, y, e, hk⟩ => by
    subst e
    cases dn with
    | cons h1 h2 =>
      cases h2 with
      | cons h2 h3 =>
        cases h3
        exact ⟨_, _, rfl, M.nx _ _ _ _ hk ((g1.env.put i h1).put j h2)⟩
theorem st_augI {i : Nat} {f : Int → Int → Int} {a : Int} (h0 : Γ[i]? = some (.d (.int a))) (h : EvP K B G L Γ te fun d => ∃ b, d = .int b ∧ P.nx L (Γ.set i (.d (.int (f a b))))) : StP K B G L Γ (tAug i te (ipI f)) P := fun σ H D E M => by
  obtain ⟨v, e, dn⟩ := E.get h0
  refine ⟨v, e, h σ H _ E fun u d H1 g1 dn1 ⟨b, e1, hk⟩ => ?_⟩
  subst e1
  exact ⟨a, b, dn_int dn, dn_int dn1, M.nx _ _ _ _ hk (g1.env.put i (.int _))⟩

/-! ### local lists -/
theorem Go.keepL {l : Addr} (E : Env K B G L H σ Γ) (g : Go K B G L Γ H H' σ) (hl : H l = none) : Same (hid (L ++ B.M) H) (hid (l :: L ++ B.M) H') := fun a o e => by
  obtain ⟨q, e1⟩ := hid_some e
  have q2 : a ∉ l :: L ++ B.M := fun z => by
    rcases List.mem_cons.mp z with z | z
    · rw [z, hl] at e1; cases e1
    · exact q z
  rw [hid_out q2]
  exact (hid_some (g.sm a o e)).2
/-- a fresh list becomes a slot's own -/
theorem Env.take {l : Addr} {vs : List V} {ds : List PyData} (E : Env K B G L H σ Γ) (g : Go K B G L Γ H H' σ) (hl : H l = none) (h : H' l = some (.lst vs)) (i : Nat)
    (hself : DnA K (hid (l :: (L ++ B.M)) H') vs ds) : Env K B G (l :: L) H' (σ.set i (some (.ref l))) (Γ.set i (.own l ds)) := by
  have E' := g.env
  have hkeep := g.keepL E hl
  have nL : l ∉ L := fun q => by
    obtain ⟨_, xs, e⟩ := E.lo l q
    rw [hl] at e; cases e
  have gt : ∀ (j : Nat) (s : Sl), (Γ.set i (.own l ds))[j]? = some s → (j = i ∧ s = .own l ds ∧ j < Γ.length) ∨ (j ≠ i ∧ Γ[j]? = some s) := fun j s hj => by
    by_cases e : j = i
    · subst e
      refine .inl ⟨rfl, ?_⟩
      by_cases hl : j < Γ.length
      · rw [List.getElem?_set_self hl] at hj
        exact ⟨(Option.some.inj hj).symm, hl⟩
      · rw [List.getElem?_eq_none (by rw [List.length_set]; omega)] at hj
        cases hj
    · rw [List.getElem?_set_ne (Ne.symm e)] at hj
      exact .inr ⟨e, hj⟩
  refine ⟨E'.fr, E'.ws, E'.wm, E'.lm, fun m hm => ?_, by rw [List.length_set, List.length_set]; exact E'.len, fun j s hj => ?_, fun p hp => (E.gh p hp).trans hkeep, fun j m xs hj => ?_, fun j k m xs ys hj hk => ?_, fun j w hj => ?_⟩
  · rcases List.mem_cons.mp hm with rfl | hm
    · refine ⟨?_, _, h⟩
      cases e : B.H m with
      | none => rfl
      | some o =>
        exfalso
        by_cases w : m ∈ B.Ws
        · obtain ⟨_, _, _, q, _⟩ := E.ws m w
          rw [hl] at q; cases q
        · have q := E.fr m o w e
          rw [hl] at q; cases q
    · exact E'.lo m hm
  · rcases gt j s hj with ⟨rfl, rfl, hj'⟩ | ⟨ne, hj'⟩
    · refine ⟨?_, vs, h, hself⟩
      rw [List.getElem?_set_self (by rw [E'.len]; exact hj')]
      rfl
    · rw [List.getElem?_set_ne (Ne.symm ne)]
      have q := E.sl j s hj'
      cases s with
      | un => trivial
      | d x =>
        obtain ⟨v, e, dn⟩ := q
        exact ⟨v, e, dn.mono hkeep⟩
      | own m xs =>
        obtain ⟨e, ws, hm, dnm⟩ := q
        exact ⟨e, ws, g.kp m (E.ow j m xs hj') _ hm, dnm.mono hkeep⟩
      | well w => exact q
      | raw v => exact q
  · rcases gt j _ hj with ⟨_, e, _⟩ | ⟨_, hj⟩
    · cases e
      exact List.mem_cons_self ..
    · exact List.mem_cons_of_mem _ (E'.ow j m xs hj)
  · rcases gt j _ hj with ⟨ej, e, _⟩ | ⟨_, hj⟩
    · rcases gt k _ hk with ⟨ek, e', _⟩ | ⟨_, hk⟩
      · rw [ej, ek]
      · exfalso
        cases e
        exact nL (E'.ow k _ _ hk)
    · rcases gt k _ hk with ⟨ek, e', _⟩ | ⟨_, hk⟩
      · exfalso
        cases e'
        exact nL (E'.ow j _ _ hj)
      · exact E'.ou j k m xs ys hj hk
  · rcases gt j _ hj with ⟨_, e, _⟩ | ⟨_, hj⟩
    · cases e
    · exact E'.we j w hj
/-- x = a new list, kept as the name's own -/
theorem st_own {i : Nat} (h : EvN K B G L Γ te fun ds => ∀ l, P.nx (l :: L) (Γ.set i (.own l ds))) : StP K B G L Γ (tAsg te (gName i)) P := fun σ H D E M =>
  h σ H _ E fun p vs ds H' g hp e dn hk => M.nx _ _ _ _ (hk p) (Env.take E g hp e i dn)
/-- an own list's new content -/
theorem Env.write {i : Nat} {l : Addr} {xs ys : List PyData} {vs : List V} (E : Env K B G L H σ Γ) (hi : Γ[i]? = some (.own l xs)) (dn : DnA K (hid (L ++ B.M) H) vs ys) :
    Env K B G L (upd H l (.lst vs)) σ (Γ.set i (.own l ys)) := by
  have hl := E.ow i l xs hi
  have lM : l ∈ L ++ B.M := List.mem_append_left _ hl
  have hs : Same (hid (L ++ B.M) H) (hid (L ++ B.M) (upd H l (.lst vs))) := fun a o e => by
    obtain ⟨q, e⟩ := hid_some e
    rw [hid_out q, upd_ne (fun (z : a = l) => q (by rw [z]; exact lM))]
    exact e
  have gt : ∀ (j : Nat) (s : Sl), (Γ.set i (.own l ys))[j]? = some s → (j = i ∧ s = .own l ys ∧ j < Γ.length) ∨ (j ≠ i ∧ Γ[j]? = some s) := fun j s hj => by
    by_cases e : j = i
    · subst e
      refine .inl ⟨rfl, ?_⟩
      by_cases hl : j < Γ.length
      · rw [List.getElem?_set_self hl] at hj
        exact ⟨(Option.some.inj hj).symm, hl⟩
      · rw [List.getElem?_eq_none (by rw [List.length_set]; omega)] at hj
        cases hj
    · rw [List.getElem?_set_ne (Ne.symm e)] at hj
      exact .inr ⟨e, hj⟩
  refine ⟨fun a o w e => ?_, fun w hw => ?_, E.wm, E.lm, fun m hm => ?_, by rw [List.length_set]; exact E.len, fun j s hj => ?_, fun p hp => (E.gh p hp).trans hs, fun j m zs hj => ?_, fun j k m zs ws hj hk => ?_, fun j w hj => ?_⟩
  · rw [upd_ne]
    · exact E.fr a o w e
    · rintro rfl
      rw [(E.lo a hl).1] at e; cases e
  · obtain ⟨n, b, c, e, q⟩ := E.ws w hw
    refine ⟨n, b, c, ?_, q⟩
    rw [upd_ne (fun (z : w = l) => E.lW hl (by rw [← z]; exact hw))]
    exact e
  · refine ⟨(E.lo m hm).1, ?_⟩
    by_cases z : m = l
    · exact ⟨vs, by rw [z]; exact upd_same⟩
    · rw [upd_ne z]
      exact (E.lo m hm).2
  · rcases gt j s hj with ⟨rfl, rfl, hj'⟩ | ⟨ne, hj'⟩
    · obtain ⟨e, _⟩ := E.sl j _ hi
      exact ⟨e, vs, upd_same, dn.mono hs⟩
    · have q := E.sl j s hj'
      cases s with
      | un => trivial
      | d x =>
        obtain ⟨v, e, dn⟩ := q
        exact ⟨v, e, dn.mono hs⟩
      | own m zs =>
        obtain ⟨e, ws, hm, dnm⟩ := q
        refine ⟨e, ws, ?_, dnm.mono hs⟩
        rw [upd_ne (fun (z : m = l) => ne (E.ou j i m zs xs hj' (by rw [z]; exact hi)))]
        exact hm
      | well w => exact q
      | raw v => exact q
  · rcases gt j _ hj with ⟨_, e, _⟩ | ⟨_, hj⟩
    · cases e
      exact hl
    · exact E.ow j m zs hj
  · rcases gt j _ hj with ⟨ej, e, _⟩ | ⟨nj, hj⟩
    · rcases gt k _ hk with ⟨ek, e', _⟩ | ⟨_, hk⟩
      · rw [ej, ek]
      · cases e
        rw [ej]
        exact E.ou i k _ _ _ hi hk
    · rcases gt k _ hk with ⟨ek, e', _⟩ | ⟨_, hk⟩
      · cases e'
        rw [ek]
        exact E.ou j i _ _ _ hj hi
      · exact E.ou j k m zs ws hj hk
  · rcases gt j _ hj with ⟨_, e, _⟩ | ⟨_, hj⟩
    · cases e
    · exact E.we j w hj
/-- xs.append(e), xs an own list -/
theorem st_append {i : Nat} {l : Addr} {xs : List PyData} (hi : Γ[i]? = some (.own l xs)) (hz : xs.length < 100000) (h : EvP K B G L Γ te fun d => P.nx L (Γ.set i (.own l (xs ++ [d])))) :
    StP K B G L Γ (tDrop (tBM K "list" rAppend (tVar i) (tCons te tNil))) P := fun σ H D E M => by
  obtain ⟨e, vs, hl, dn⟩ := E.getO hi
  refine ⟨_, e, .inl ⟨rfl, vs, .inl (.inl hl)⟩, h σ H _ E fun v d H1 g1 dn1 hk => ?_⟩
  obtain ⟨e1, ws, hl1, dn2⟩ := g1.env.getO hi
  refine ⟨l, ws, v, rfl, rfl, hl1, ?_, M.nx _ _ _ _ hk (Env.write g1.env hi (dn2.append (.cons dn1 .nil)))⟩
  rw [dn2.length]
  exact Nat.lt_of_lt_of_le hz (by decide)
/-- xs[i] = e, xs an own list -/
theorem st_setOwn {i : Nat} {l : Addr} {xs : List PyData} (hi : Γ[i]? = some (.own l xs)) (h : EvP K B G L Γ te fun d => EvP K B G L Γ tb fun n => ∃ j : Nat, n = .int (j : Int) ∧ j < xs.length ∧ P.nx L (Γ.set i (.own l (xs.set j d)))) :
    StP K B G L Γ (tAsg te (gSub (tVar i) tb rSetL)) P := fun σ H D E M =>
  h σ H _ E fun v d H1 g1 dn1 h2 => by
    obtain ⟨e, vs, hl, dn⟩ := g1.env.getO hi
    refine ⟨_, e, h2 σ H1 _ g1.env fun u n H2 g2 dn2 ⟨j, en, hj, hk⟩ => ?_⟩
    subst en
    obtain ⟨e, ws, hl2, dn3⟩ := g2.env.getO hi
    refine ⟨l, ws, (j : Int), j, rfl, dn_int dn2, hl2, ?_, M.nx _ _ _ _ hk (Env.write g2.env hi (dn3.set j (dn1.mono g2.sm)))⟩
    rw [dn3.length]
    unfold ixN
    rw [if_pos (by omega), if_pos (by omega)]
    simp
/-- reading an own list -/
theorem ev_lenO {i : Nat} {l : Addr} {xs : List PyData} (hi : Γ[i]? = some (.own l xs)) (hk : k (.int xs.length)) : EvP K B G L Γ (tCB (fun xs H Q => ∃ p ys, xs = [.ref p] ∧ (SqL K H p ys ∨ SqT K H p ys) ∧ Q (.int ys.length) H) (tCons (tVar i) tNil)) k := fun σ H Q E q => by
  obtain ⟨e, vs, hl, dn⟩ := E.getO hi
  refine ⟨_, e, l, vs, rfl, .inl (.inl (.inl hl)), ?_⟩
  rw [dn.length]
  exact q _ _ H (Go.refl E) (.int _) hk
theorem ev_ixO {i : Nat} {l : Addr} {xs : List PyData} (hi : Γ[i]? = some (.own l xs)) (h : EvP K B G L Γ tb fun n => ∃ j d, n = .int j ∧ atI xs j = some d ∧ k d) : EvP K B G L Γ (tOp (rIxL K) (tVar i) tb) k := fun σ H Q E q => by
  obtain ⟨e, vs, hl, dn⟩ := E.getO hi
  refine ⟨_, e, h σ H _ E fun u n H2 g2 dn2 ⟨j, d, en, ed, hk⟩ => ?_⟩
  subst en
  obtain ⟨e, ws, hl2, dn3⟩ := g2.env.getO hi
  obtain ⟨w, e2, dn4⟩ := dna_at dn3 ed
  exact ⟨l, ws, j, w, rfl, dn_int dn2, .inl (.inl hl2), e2, q _ _ H2 g2 dn4 hk⟩
theorem ev_tupO {i : Nat} {l : Addr} {xs : List PyData} (hi : Γ[i]? = some (.own l xs)) (hk : k (.tuple xs)) :
    EvP K B G L Γ (tCB (fun xs H Q => ∃ p ys, xs = [.ref p] ∧ ((SqL K H p ys ∧ ∀ l, H l = none → Q (.ref l) (upd H l (.tup ys))) ∨ (SqT K H p ys ∧ Q (.ref p) H))) (tCons (tVar i) tNil)) k := fun σ H Q E q => by
  obtain ⟨e, vs, hl, dn⟩ := E.getO hi
  refine ⟨_, e, l, vs, rfl, .inl ⟨.inl (.inl hl), fun p hp => ?_⟩⟩
  have g2 := Go.new (o := .tup vs) E hp
  exact q _ _ _ g2 (.tup (.inl (.inl (hid_new (E.newM hp)))) (dn.mono g2.sm)) hk
/-- an own list is data from here on -/
theorem Env.freeze {i : Nat} {l : Addr} {L' : List Addr} {xs : List PyData} (E : Env K B G (l :: L') H σ Γ) (hn : l ∉ L') (hi : Γ[i]? = some (.own l xs)) : Env K B G L' H σ (Γ.set i (.d (.list xs))) := by
  have hs : Same (hid (l :: L' ++ B.M) H) (hid (L' ++ B.M) H) := hid_less H fun a h => List.mem_cons_of_mem _ h
  have lM : l ∉ L' ++ B.M := fun z => by
    rcases List.mem_append.mp z with z | z
    · exact hn z
    · obtain ⟨o, e⟩ := E.lm l z
      rw [(E.lo l (List.mem_cons_self ..)).1] at e; cases e
  have gt : ∀ (j : Nat) (s : Sl), (Γ.set i (.d (.list xs)))[j]? = some s → (j = i ∧ s = .d (.list xs) ∧ j < Γ.length) ∨ (j ≠ i ∧ Γ[j]? = some s) := fun j s hj => by
    by_cases e : j = i
    · subst e
      refine .inl ⟨rfl, ?_⟩
      by_cases hl : j < Γ.length
      · rw [List.getElem?_set_self hl] at hj
        exact ⟨(Option.some.inj hj).symm, hl⟩
      · rw [List.getElem?_eq_none (by rw [List.length_set]; omega)] at hj
        cases hj
    · rw [List.getElem?_set_ne (Ne.symm e)] at hj
      exact .inr ⟨e, hj⟩
  refine ⟨E.fr, E.ws, E.wm, E.lm, fun m hm => E.lo m (List.mem_cons_of_mem _ hm), by rw [List.length_set]; exact E.len, fun j s hj => ?_, fun p hp => (E.gh p hp).trans hs, fun j m zs hj => ?_, fun j k m zs ws hj hk => ?_, fun j w hj => ?_⟩
  · rcases gt j s hj with ⟨rfl, rfl, hj'⟩ | ⟨ne, hj'⟩
    · obtain ⟨e, vs, hl, dn⟩ := E.sl j _ hi
      exact ⟨_, e, .lst (by rw [hid_out lM]; exact hl) (dn.mono hs)⟩
    · have q := E.sl j s hj'
      cases s with
      | un => trivial
      | d x =>
        obtain ⟨v, e, dn⟩ := q
        exact ⟨v, e, dn.mono hs⟩
      | own m zs =>
        obtain ⟨e, ws, hm, dnm⟩ := q
        exact ⟨e, ws, hm, dnm.mono hs⟩
      | well w => exact q
      | raw v => exact q
  · rcases gt j _ hj with ⟨_, e, _⟩ | ⟨nj, hj⟩
    · cases e
    · rcases List.mem_cons.mp (E.ow j m zs hj) with z | z
      · subst z
        exact absurd (E.ou j i m zs xs hj hi) nj
      · exact z
  · rcases gt j _ hj with ⟨ej, e, _⟩ | ⟨nj, hj⟩
    · cases e
    · rcases gt k _ hk with ⟨ek, e', _⟩ | ⟨_, hk⟩
      · cases e'
      · exact E.ou j k m zs ws hj hk
  · rcases gt j _ hj with ⟨_, e, _⟩ | ⟨_, hj⟩
    · cases e
    · exact E.we j w hj
theorem st_freeze (i : Nat) {l : Addr} {L' : List Addr} {xs : List PyData} (hi : Γ[i]? = some (.own l xs)) (hn : l ∉ L') (h : StP K B G L' (Γ.set i (.d (.list xs))) t P) : StP K B G (l :: L') Γ t P := fun σ H D E M => h σ H D (E.freeze hn hi) M
end
end DL
namespace DL
open PySem PySem.Spec PyProof.Rows L2
section
variable {K : PySem.W.Frag} {B : Bs} {G : List Hp} {L : List Addr} {Γ : List Sl} {H H' H2 : Hp} {σ : L2.St}
variable {te ta tb tc tl : TE} {tt tu : TT} {tr : TA} {k : PyData → Prop} {x y : PyData} {P P' : PD} {t u : TS}

/-! ### loops -/
theorem Env.gpush (E : Env K B G L H σ Γ) : Env K B (hid (L ++ B.M) H :: G) L H σ Γ := ⟨E.fr, E.ws, E.wm, E.lm, E.lo, E.len, E.sl, fun g hg => by
  rcases List.mem_cons.mp hg with rfl | hg
  · exact Same.refl _
  · exact E.gh g hg, E.ow, E.ou, E.we⟩
theorem Env.gpop {g : Hp} (E : Env K B (g :: G) L H σ Γ) : Env K B G L H σ Γ := ⟨E.fr, E.ws, E.wm, E.lm, E.lo, E.len, E.sl, fun g' hg => E.gh g' (List.mem_cons_of_mem _ hg), E.ow, E.ou, E.we⟩
def PD.inLoop (P : PD) (I : List Addr → List Sl → Prop) : PD := { nx := I, ct := I, bk := P.nx, rt := P.rt }
/-- for x in (a list that is data | a tuple) -/
theorem st_forL {j : Nat} (h : EvP K B G L Γ tl fun d => ∃ ds, d = .list ds ∧ ∃ I : Nat → List Addr → List Sl → Prop, I 0 L Γ ∧
    (∀ i d' L' Γ' g, ds[i]? = some d' → I i L' Γ' → StP K B (g :: G) L' (Γ'.set j (.d d')) t (P.inLoop (I (i + 1)))) ∧ ∀ L' Γ', I ds.length L' Γ' → P.nx L' Γ') :
    StP K B G L Γ (tFor (iList K tl) (gName j) t) P := fun σ H D E M =>
  h σ H _ E fun v d H1 g1 dn ⟨ds, e, I, h0, hs, hd⟩ => by
    subst e
    cases dn with
    | @lst a xs _ e1 h2 =>
      have E1 := g1.env.gpush
      refine ⟨a, rfl, ⟨xs, .inl (.inl (hid_sub _ _ _ _ e1))⟩, for_list (xs := xs) (fun i σ' H' => ∃ L' Γ', I i L' Γ' ∧ Env K B (hid (L ++ B.M) H1 :: G) L' H' σ' Γ') ⟨L, Γ, h0, E1⟩ (fun i σ' H' _ ⟨L', Γ', _, E'⟩ => ?_) (fun i x σ' H' hi ⟨L', Γ', hI, E'⟩ => ?_) (fun σ' H' ⟨L', Γ', hI, E'⟩ => ?_)⟩
      · exact .inl (.inl (hid_sub _ _ _ _ (E'.gh _ (List.mem_cons_self ..) _ _ e1)))
      · obtain ⟨d', e', dn'⟩ := h2.getV hi
        refine hs i d' L' Γ' _ e' hI _ H' _ (E'.put j (dn'.mono (E'.gh _ (List.mem_cons_self ..)))) ⟨fun L2 Γ2 σ2 H2 q E2 => ⟨L2, Γ2, q, E2⟩, M.rt, fun L2 Γ2 σ2 H2 q E2 => M.nx _ _ _ _ q E2.gpop, fun L2 Γ2 σ2 H2 q E2 => ⟨L2, Γ2, q, E2⟩⟩
      · rw [h2.length] at hI
        exact M.nx _ _ _ _ (hd L' Γ' hI) E'.gpop
theorem st_forT {j : Nat} (h : EvP K B G L Γ tl fun d => ∃ ds, d = .tuple ds ∧ ∃ I : Nat → List Addr → List Sl → Prop, I 0 L Γ ∧
    (∀ i d' L' Γ' g, ds[i]? = some d' → I i L' Γ' → StP K B (g :: G) L' (Γ'.set j (.d d')) t (P.inLoop (I (i + 1)))) ∧ ∀ L' Γ', I ds.length L' Γ' → P.nx L' Γ') :
    StP K B G L Γ (tFor (iTup K tl) (gName j) t) P := fun σ H D E M =>
  h σ H _ E fun v d H1 g1 dn ⟨ds, e, I, h0, hs, hd⟩ => by
    subst e
    cases dn with
    | @tup a xs _ e1 h2 =>
      have E1 := g1.env.gpush
      refine ⟨a, rfl, ⟨xs, Same.sqt (hid_sub _ _) e1⟩, for_tup (xs := xs) (fun i σ' H' => ∃ L' Γ', I i L' Γ' ∧ Env K B (hid (L ++ B.M) H1 :: G) L' H' σ' Γ') ⟨L, Γ, h0, E1⟩ (fun i σ' H' _ ⟨L', Γ', _, E'⟩ => ?_) (fun i x σ' H' hi ⟨L', Γ', hI, E'⟩ => ?_) (fun σ' H' ⟨L', Γ', hI, E'⟩ => ?_)⟩
      · exact Same.sqt (hid_sub _ _) (Same.sqt (E'.gh _ (List.mem_cons_self ..)) e1)
      · obtain ⟨d', e', dn'⟩ := h2.getV hi
        refine hs i d' L' Γ' _ e' hI _ H' _ (E'.put j (dn'.mono (E'.gh _ (List.mem_cons_self ..)))) ⟨fun L2 Γ2 σ2 H2 q E2 => ⟨L2, Γ2, q, E2⟩, M.rt, fun L2 Γ2 σ2 H2 q E2 => M.nx _ _ _ _ q E2.gpop, fun L2 Γ2 σ2 H2 q E2 => ⟨L2, Γ2, q, E2⟩⟩
      · rw [h2.length] at hI
        exact M.nx _ _ _ _ (hd L' Γ' hI) E'.gpop
/-- for k in range(n) -/
theorem st_forR {j : Nat} (h : EvA K B G L Γ tr fun vs => ∃ n : Int, vs = [.int n] ∧ -1000000 ≤ n ∧ n ≤ 1000000 ∧ ∃ I : Nat → List Addr → List Sl → Prop, I 0 L Γ ∧
    (∀ i L' Γ', i < n.toNat → I i L' Γ' → StP K B G L' (Γ'.set j (.d (.int (i : Int)))) t (P.inLoop (I (i + 1)))) ∧ ∀ L' Γ', I n.toNat L' Γ' → P.nx L' Γ') :
    StP K B G L Γ (tFor (iRng1 tr) (gName j) t) P := fun σ H D E M =>
  h σ H _ E fun vs ds H1 g1 dn ⟨n, e, hn0, hn, I, h0, hs, hd⟩ => by
    subst e
    cases dn with
    | cons d1 d2 =>
      cases d2
      cases d1
      refine ⟨n, rfl, by omega, by omega, for_range (lo := 0) (n := n.toNat) (fun i σ' H' => ∃ L' Γ', I i L' Γ' ∧ Env K B G L' H' σ' Γ') ⟨L, Γ, h0, g1.env⟩ (fun i σ' H' hi ⟨L', Γ', hI, E'⟩ => ?_) (fun σ' H' ⟨L', Γ', hI, E'⟩ => M.nx _ _ _ _ (hd L' Γ' hI) E')⟩
      have e0 : (0 : Int) + (i : Int) = (i : Int) := Int.zero_add _
      rw [e0]
      exact hs i L' Γ' hi hI _ H' _ (E'.put j (.int _)) ⟨fun L2 Γ2 σ2 H2 q E2 => ⟨L2, Γ2, q, E2⟩, M.rt, M.nx, fun L2 Γ2 σ2 H2 q E2 => ⟨L2, Γ2, q, E2⟩⟩
/-- while -/
theorem st_while (I : Nat → List Addr → List Sl → Prop) (m0 : Nat) (h0 : I m0 L Γ)
    (hs : ∀ m L' Γ', I m L' Γ' → EvT K B G L' Γ' tt fun b => (b = true → StP K B G L' Γ' t (P.inLoop fun L2 Γ2 => ∃ m', m' < m ∧ I m' L2 Γ2)) ∧ (b = false → P.nx L' Γ')) : StP K B G L Γ (tWhile tt t) P := fun σ H D E M =>
  ⟨fun m σ' H' => ∃ L' Γ', I m L' Γ' ∧ Env K B G L' H' σ' Γ', ⟨m0, L, Γ, h0, E⟩, fun m σ' H' ⟨L', Γ', hI, E'⟩ => hs m L' Γ' hI σ' H' _ E' fun b H1 g1 ⟨h1, h2⟩ => by
    cases b with
    | true =>
      refine iteT ⟨fun σ2 H2 => ∃ L2 Γ2, (∃ m', m' < m ∧ I m' L2 Γ2) ∧ Env K B G L2 H2 σ2 Γ2, fun σ2 H2 ⟨L2, Γ2, ⟨m', hm, hI2⟩, E2⟩ => ⟨m', hm, L2, Γ2, hI2, E2⟩, ?_⟩
      exact h1 rfl σ' H1 _ g1.env ⟨fun L2 Γ2 σ2 H2 q E2 => ⟨L2, Γ2, q, E2⟩, M.rt, M.nx, fun L2 Γ2 σ2 H2 q E2 => ⟨L2, Γ2, q, E2⟩⟩
    | false => exact iteF (M.nx _ _ _ _ (h2 rfl) g1.env)⟩

/-! ### comprehensions -/
/-- one more list of one's own, no name's -/
theorem Env.temp {l : Addr} {vs : List V} (E : Env K B G L H σ Γ) (g : Go K B G L Γ H H' σ) (hl : H l = none) (h : H' l = some (.lst vs)) : Env K B G (l :: L) H' σ Γ := by
  have E' := g.env
  have hkeep := g.keepL E hl
  refine ⟨E'.fr, E'.ws, E'.wm, E'.lm, fun m hm => ?_, E'.len, fun j s hj => ?_, fun p hp => (E.gh p hp).trans hkeep, fun j m xs hj => List.mem_cons_of_mem _ (E'.ow j m xs hj), E'.ou, E'.we⟩
  · rcases List.mem_cons.mp hm with rfl | hm
    · refine ⟨?_, _, h⟩
      cases e : B.H m with
      | none => rfl
      | some o =>
        exfalso
        by_cases w : m ∈ B.Ws
        · obtain ⟨_, _, _, q, _⟩ := E.ws m w
          rw [hl] at q; cases q
        · have q := E.fr m o w e
          rw [hl] at q; cases q
    · exact E'.lo m hm
  · have q := E.sl j s hj
    cases s with
    | un => trivial
    | d x =>
      obtain ⟨v, e, dn⟩ := q
      exact ⟨v, e, dn.mono hkeep⟩
    | own m xs =>
      obtain ⟨e, ws, hm, dnm⟩ := q
      exact ⟨e, ws, g.kp m (E.ow j m xs hj) _ hm, dnm.mono hkeep⟩
    | well w => exact q
    | raw v => exact q
def wipeG (Γ : List Sl) : List Nat → List Sl
  | [] => Γ
  | v :: vs => (wipeG Γ vs).set v .un
theorem Env.set_un (E : Env K B G L H σ Γ) (i : Nat) : Env K B G L H (σ.set i none) (Γ.set i .un) := by
  have E2 := E.weak i
  refine ⟨E2.fr, E2.ws, E2.wm, E2.lm, E2.lo, by rw [List.length_set]; exact E2.len, fun j s hj => ?_, E2.gh, E2.ow, E2.ou, E2.we⟩
  by_cases e : j = i
  · subst e
    have : s = .un := by
      by_cases hl : j < Γ.length
      · rw [List.getElem?_set_self hl] at hj
        exact (Option.some.inj hj).symm
      · rw [List.getElem?_eq_none (by rw [List.length_set]; omega)] at hj
        cases hj
    subst this
    trivial
  · rw [List.getElem?_set_ne (Ne.symm e)]
    exact E2.sl j s hj
theorem Env.wipe (E : Env K B G L H σ Γ) : ∀ vs : List Nat, Env K B G L H (L2.wipe σ vs) (wipeG Γ vs)
  | [] => E
  | v :: vs => (Env.wipe E vs).set_un v
/-- a comprehension's turns: J says what is made of the first turns -/
def CompOk (K : PySem.W.Frag) (B : Bs) (G : List Hp) (L : List Addr) (Γ : List Sl) (j : Nat) (tt : TT) (te : TE) (vs : List Nat) (n : Nat) (item : Nat → PyData → Prop) (J : Nat → List PyData → Prop) : Prop :=
  J 0 [] ∧ ∀ i D d' acc, item i d' → J i acc → i < n → EvT K B G (D :: L) ((wipeG Γ vs).set j (.d d')) tt fun b =>
    (b = true → EvP K B G (D :: L) ((wipeG Γ vs).set j (.d d')) te fun y => J (i + 1) (acc ++ [y])) ∧ (b = false → J (i + 1) acc)
/-- the heap and the list so far -/
structure Sofar (K : PySem.W.Frag) (B : Bs) (L : List Addr) (H1 H' : Hp) (D : Addr) (i : Nat) (J : Nat → List PyData → Prop) : Prop where
  rl : ∀ a o, a ∉ B.Ws → H1 a = some o → H' a = some o
  ws : ∀ w ∈ B.Ws, WellAt H' w
  it : ∃ accV acc, J i acc ∧ acc.length ≤ i ∧ H' D = some (.lst accV) ∧ DnA K (hid (D :: (L ++ B.M)) H') accV acc
theorem Go.of_rel (E : Env K B G L H σ Γ) (h1 : ∀ a o, a ∉ B.Ws → H a = some o → H' a = some o) (h2 : ∀ w ∈ B.Ws, WellAt H' w) : Go K B G L Γ H H' σ := Go.step E h1 h2
theorem comp_turn {j n : Nat} {vs : List Nat} {item : Nat → PyData → Prop} {J : Nat → List PyData → Prop} {H1 : Hp} {D : Addr} {i : Nat} {x : V} {d' : PyData} (E1 : Env K B G L H1 σ Γ) (hD : H1 D = none) (C : CompOk K B G L Γ j tt te vs n item J) (hn : n ≤ 100000)
    (S : Sofar K B L H1 H' D i J) (hi : item i d') (hin : i < n) (dn : Dn K (hid (L ++ B.M) H1) x d') :
    tt ((L2.wipe σ vs).set j (some x)) H' fun b H3 => if b = true then te ((L2.wipe σ vs).set j (some x)) H3 fun y H4 => ∃ acc, H4 D = some (.lst acc) ∧ acc.length < sizeLine ∧ Sofar K B L H1 (upd H4 D (.lst (acc ++ [y]))) D (i + 1) J else Sofar K B L H1 H3 D (i + 1) J := by
  obtain ⟨rl, ws, accV, acc, hJ, hlen, hDl, dA⟩ := S
  have g0 : Go K B G L Γ H1 H' σ := Go.of_rel E1 rl ws
  have ET := Env.temp E1 g0 hD hDl
  have hk0 : Same (hid (L ++ B.M) H1) (hid (D :: L ++ B.M) H') := g0.keepL E1 hD
  have EW := (ET.wipe vs).put j (dn.mono hk0)
  refine C.2 i D d' acc hi hJ hin _ H' _ EW fun b H3 g3 ⟨c1, c2⟩ => ?_
  have D3 : H3 D = some (.lst accV) := g3.kp D (List.mem_cons_self ..) _ hDl
  cases b with
  | false =>
    refine iteF ⟨fun a o w e => g3.rl a o w (rl a o w e), g3.env.ws, accV, acc, c2 rfl, by omega, D3, dA.mono g3.sm⟩
  | true =>
    refine iteT (c1 rfl _ H3 _ g3.env fun y d H4 g4 dy hJ' => ?_)
    have D4 : H4 D = some (.lst accV) := g4.kp D (List.mem_cons_self ..) _ D3
    refine ⟨accV, D4, ?_, ?_⟩
    · rw [dA.length]
      exact Nat.lt_of_le_of_lt hlen (Nat.lt_of_lt_of_le (Nat.lt_of_lt_of_le hin hn) (by decide))
    · have hs : Same (hid (D :: (L ++ B.M)) H4) (hid (D :: (L ++ B.M)) (upd H4 D (.lst (accV ++ [y])))) := fun a o e => by
        obtain ⟨q, e⟩ := hid_some e
        rw [hid_out q, upd_ne (fun z => q (by rw [z]; exact List.mem_cons_self ..))]
        exact e
      have dW : D ∉ B.Ws := fun w => by
        obtain ⟨_, _, _, q, _⟩ := E1.ws D w
        rw [hD] at q; cases q
      refine ⟨fun a o w e => ?_, fun w hw => ?_, accV ++ [y], acc ++ [d], hJ', by rw [List.length_append]; exact Nat.succ_le_succ hlen, upd_same, ?_⟩
      · rw [upd_ne (ne_of_none e hD)]
        exact g4.rl a o w (g3.rl a o w (rl a o w e))
      · obtain ⟨n, b, c, e, q⟩ := g4.env.ws w hw
        exact ⟨n, b, c, by rw [upd_ne (fun (z : w = D) => dW (by rw [← z]; exact hw))]; exact e, q⟩
      · exact ((dA.mono g3.sm).mono g4.sm |>.append (.cons dy .nil)).mono hs
theorem en_lcT {j : Nat} {vs : List Nat} {kl : List PyData → Prop} (hw : ∀ (σ : L2.St) x, L2.wipe ((L2.wipe σ vs).set j (some x)) vs = L2.wipe σ vs)
    (h : EvP K B G L Γ tl fun d => ∃ ds, d = .tuple ds ∧ ds.length ≤ 100000 ∧ ∃ J, CompOk K B G L Γ j tt te vs ds.length (fun i d' => ds[i]? = some d') J ∧ ∀ acc, J ds.length acc → kl acc) :
    EvN K B G L Γ (tLc (iTup K tl) (gName j) tt te vs) kl := fun σ H Q E q =>
  h σ H _ E fun v d H1 g1 dn ⟨ds, e, hl, J, C, hk⟩ => by
    subst e
    cases dn with
    | @tup a xs _ e1 h2 =>
      refine ⟨a, rfl, ⟨xs, Same.sqt (hid_sub _ _) e1⟩, fun D hD => lc_tup (xs := xs) (fun i H' => Sofar K B L H1 H' D i J)
        ⟨fun a o w e => same_upd hD a o e, fun w hw => ?_, [], [], C.1, Nat.le_refl _, upd_same, .nil⟩ (fun i H' _ S => ?_) (fun i x H' hi S => ?_) (fun H' S => ?_)⟩
      · obtain ⟨n, b, c, e, q⟩ := g1.env.ws w hw
        exact ⟨n, b, c, same_upd hD _ _ e, q⟩
      · have g0 : Go K B G L Γ H1 H' σ := Go.of_rel g1.env S.rl S.ws
        exact Same.sqt (hid_sub _ _) (Same.sqt g0.sm e1)
      · obtain ⟨d', e', dn'⟩ := h2.getV hi
        exact ⟨hw σ x, comp_turn g1.env hD C hl S e' (List.getElem?_eq_some_iff.mp e').1 dn'⟩
      · have g0 : Go K B G L Γ H1 H' σ := Go.of_rel g1.env S.rl S.ws
        obtain ⟨accV, acc, hJ, _, e, dA⟩ := S.it
        rw [h2.length] at hJ
        exact q D accV acc H' (g1.trans g0) (Go.fresh E g1 hD) e dA (hk acc hJ)
theorem en_lcL {j : Nat} {vs : List Nat} {kl : List PyData → Prop} (hw : ∀ (σ : L2.St) x, L2.wipe ((L2.wipe σ vs).set j (some x)) vs = L2.wipe σ vs)
    (h : EvP K B G L Γ tl fun d => ∃ ds, d = .list ds ∧ ds.length ≤ 100000 ∧ ∃ J, CompOk K B G L Γ j tt te vs ds.length (fun i d' => ds[i]? = some d') J ∧ ∀ acc, J ds.length acc → kl acc) :
    EvN K B G L Γ (tLc (iList K tl) (gName j) tt te vs) kl := fun σ H Q E q =>
  h σ H _ E fun v d H1 g1 dn ⟨ds, e, hl, J, C, hk⟩ => by
    subst e
    cases dn with
    | @lst a xs _ e1 h2 =>
      refine ⟨a, rfl, ⟨xs, .inl (.inl (hid_sub _ _ _ _ e1))⟩, fun D hD => lc_list (xs := xs) (fun i H' => Sofar K B L H1 H' D i J)
        ⟨fun a o w e => same_upd hD a o e, fun w hw => ?_, [], [], C.1, Nat.le_refl _, upd_same, .nil⟩ (fun i H' _ S => ?_) (fun i x H' hi S => ?_) (fun H' S => ?_)⟩
      · obtain ⟨n, b, c, e, q⟩ := g1.env.ws w hw
        exact ⟨n, b, c, same_upd hD _ _ e, q⟩
      · have g0 : Go K B G L Γ H1 H' σ := Go.of_rel g1.env S.rl S.ws
        exact .inl (.inl (hid_sub _ _ _ _ (g0.sm _ _ e1)))
      · obtain ⟨d', e', dn'⟩ := h2.getV hi
        exact ⟨hw σ x, comp_turn g1.env hD C hl S e' (List.getElem?_eq_some_iff.mp e').1 dn'⟩
      · have g0 : Go K B G L Γ H1 H' σ := Go.of_rel g1.env S.rl S.ws
        obtain ⟨accV, acc, hJ, _, e, dA⟩ := S.it
        rw [h2.length] at hJ
        exact q D accV acc H' (g1.trans g0) (Go.fresh E g1 hD) e dA (hk acc hJ)
theorem et_yes {kb : Bool → Prop} (h : kb true) : EvT K B G L Γ tYes kb := fun σ H Q E q => q true H (Go.refl E) h

/-! ### defs -/
/-- a def that changes nothing -/
def SpP (K : PySem.W.Frag) (pre : List PyData → Prop) (post : List PyData → PyData → Prop) : Sp := fun vs H Q _ => ∃ M ds, (∀ m ∈ M, ∃ o, H m = some o) ∧ DnA K (hid M H) vs ds ∧ pre ds ∧
  ∀ v d H', Same H H' → Dn K (hid M H') v d → post ds d → Q v H'
/-- a def that draws from the well, its first argument -/
def SpW (K : PySem.W.Frag) (pre : List PyData → Prop) (post : List PyData → PyData → Prop) : Sp := fun vs H Q _ => ∃ M w vs' ds, vs = .ref w :: vs' ∧ w ∈ M ∧ WellAt H w ∧ (∀ m ∈ M, ∃ o, H m = some o) ∧ DnA K (hid M H) vs' ds ∧ pre ds ∧
  ∀ v d H', (∀ a o, a ≠ w → H a = some o → H' a = some o) → WellAt H' w → Dn K (hid M H') v d → post ds d → Q v H'
theorem ev_callP {pre : List PyData → Prop} {post : List PyData → PyData → Prop} {E0 : XK} (h : EvA K B G L Γ tr fun ds => pre ds ∧ ∀ d, post ds d → k d) : EvP K B G L Γ (tCall (SpP K pre post) [] E0 tr) k := fun σ H Q E q =>
  h σ H _ E fun vs ds H1 g1 dn ⟨hp, hk⟩ => by
    rw [List.append_nil]
    refine ⟨L ++ B.M, ds, g1.env.alive, dn, hp, fun v d H' hs dv hpost => ?_⟩
    have g2 := Go.step g1.env (H' := H') (fun a o _ e => hs a o e) fun w hw => by
      obtain ⟨n, b, c, e, q⟩ := g1.env.ws w hw
      exact ⟨n, b, c, hs _ _ e, q⟩
    exact q v d H' (g1.trans g2) dv (hk d hpost)
theorem ev_callW {i : Nat} {w : Addr} {pre : List PyData → Prop} {post : List PyData → PyData → Prop} {E0 : XK} (hi : Γ[i]? = some (.well w)) (h : EvA K B G L Γ tr fun ds => pre ds ∧ ∀ d, post ds d → k d) : EvP K B G L Γ (tCall (SpW K pre post) [] E0 (tCons (tVar i) tr)) k := fun σ H Q E q =>
  ⟨_, E.getW hi, h σ H _ E fun vs ds H1 g1 dn ⟨hp, hk⟩ => by
    show SpW K pre post ((V.ref w :: vs) ++ []) H1 Q E0
    rw [List.append_nil]
    have hw := g1.env.we i w hi
    refine ⟨L ++ B.M, w, vs, ds, rfl, List.mem_append_right _ (g1.env.wm w hw), g1.env.ws w hw, g1.env.alive, dn, hp, fun v d H' hs hW dv hpost => ?_⟩
    have g2 := Go.step g1.env (H' := H') (fun a o wn e => hs a o (fun z => wn (by rw [z]; exact hw)) e) fun w' hw' => by
      by_cases z : w' = w
      · rw [z]; exact hW
      · obtain ⟨n, b, c, e, q⟩ := g1.env.ws w' hw'
        exact ⟨n, b, c, hs _ _ z e, q⟩
    exact q v d H' (g1.trans g2) dv (hk d hpost)⟩
def slots (N : List Str) (ds : List PyData) : List Sl := ds.map Sl.d ++ List.replicate (N.length - ds.length) .un
theorem slotok_start (K : PySem.W.Frag) (M : List Addr) (H : Hp) (r : Nat) {vs : List V} {ds : List PyData} (dn : DnA K (hid M H) vs ds) : ∀ (i : Nat) (s : Sl), (ds.map Sl.d ++ List.replicate r Sl.un)[i]? = some s → SlotOk K M H ((vs.map some ++ List.replicate r none)[i]?.join) s := fun i s hi => by
  have hl := dn.length
  by_cases h : i < ds.length
  · rw [List.getElem?_append_left (by simpa using h)] at hi
    rw [List.getElem?_append_left (by simpa [hl] using h)]
    rw [List.getElem?_map, List.getElem?_eq_getElem h] at hi
    obtain ⟨v, e, dv⟩ := dn.get (List.getElem?_eq_getElem h)
    rw [List.getElem?_map, e]
    cases hi
    exact ⟨v, rfl, dv⟩
  · rw [List.getElem?_append_right (by simpa using h), List.getElem?_replicate] at hi
    split at hi
    · cases hi
      trivial
    · cases hi
/-- from a promise to its body -/
theorem body_P {pre : List PyData → Prop} {post : List PyData → PyData → Prop} {N : List Str} {vs : List V} {Q : VK} {E : XK} (h : SpP K pre post vs H Q E)
    (hb : ∀ (B : Bs) (ds : List PyData), B.Ws = [] → pre ds → StP K B [] [] (slots N ds) t { nx := fun _ _ => post ds .none, rt := post ds }) : t { nx := fun _ H' => Q .non H', rt := Q } (L2.start N vs) H := by
  obtain ⟨M, ds, lm, dn, hp, q⟩ := h
  have E0 : Env K ⟨M, [], H⟩ [] [] H (L2.start N vs) (slots N ds) := by
    refine ⟨fun _ _ _ e => e, fun w hw => (by cases hw), fun w hw => (by cases hw), lm, fun l hl => (by cases hl), ?_, ?_, fun g hg => (by cases hg), ?_, ?_, ?_⟩
    · unfold L2.start slots
      simp [dn.length]
    · unfold L2.start slots
      rw [dn.length]
      exact slotok_start K _ H _ dn
    · intro i l xs hi
      exfalso
      unfold slots at hi
      rcases List.mem_append.mp (List.mem_of_getElem? hi) with z | z
      · obtain ⟨d, _, e⟩ := List.mem_map.mp z
        cases e
      · cases (List.eq_of_mem_replicate z)
    · intro i j l xs ys hi hj
      exfalso
      unfold slots at hi
      rcases List.mem_append.mp (List.mem_of_getElem? hi) with z | z
      · obtain ⟨d, _, e⟩ := List.mem_map.mp z
        cases e
      · cases (List.eq_of_mem_replicate z)
    · intro i w hi
      exfalso
      unfold slots at hi
      rcases List.mem_append.mp (List.mem_of_getElem? hi) with z | z
      · obtain ⟨d, _, e⟩ := List.mem_map.mp z
        cases e
      · cases (List.eq_of_mem_replicate z)
  exact hb _ ds rfl hp _ _ _ E0 ⟨fun L Γ σ H' hq E' => q _ _ H' (fun a o e => E'.fr a o (by simp) e) .non hq, fun v d H' hq o dn => q v d H' (fun a o' e => o.fr a o' (by simp) e) dn hq, fun _ _ _ _ z => z.elim, fun _ _ _ _ z => z.elim⟩
theorem body_W {pre : List PyData → Prop} {post : List PyData → PyData → Prop} {N : List Str} {vs : List V} {Q : VK} {E : XK} (h : SpW K pre post vs H Q E) (hN : N ≠ [])
    (hb : ∀ (B : Bs) (w : Addr) (ds : List PyData), pre ds → StP K B [] [] (.well w :: slots N.tail ds) t { nx := fun _ _ => post ds .none, rt := post ds }) : t { nx := fun _ H' => Q .non H', rt := Q } (L2.start N vs) H := by
  obtain ⟨M, w, vs', ds, rfl, wM, hW, lm, dn, hp, q⟩ := h
  obtain ⟨n0, N', rfl⟩ : ∃ n0 N', N = n0 :: N' := by
    cases N with
    | nil => exact absurd rfl hN
    | cons a b => exact ⟨a, b, rfl⟩
  have e0 : L2.start (n0 :: N') (.ref w :: vs') = some (.ref w) :: (vs'.map some ++ List.replicate (N'.length - vs'.length) none) := by
    unfold L2.start
    simp
  have E0 : Env K ⟨M, [w], H⟩ [] [] H (L2.start (n0 :: N') (.ref w :: vs')) (.well w :: slots N' ds) := by
    rw [e0]
    refine ⟨fun _ _ _ e => e, fun w' hw => ?_, fun w' hw => ?_, lm, fun l hl => (by cases hl), ?_, ?_, fun g hg => (by cases hg), ?_, ?_, ?_⟩
    · rw [List.mem_singleton.mp hw]; exact hW
    · rw [List.mem_singleton.mp hw]; exact wM
    · unfold slots
      simp [dn.length]
    · intro i s hi
      cases i with
      | zero =>
        cases hi
        rfl
      | succ i =>
        have hi' : (slots N' ds)[i]? = some s := by simpa using hi
        have := slotok_start K ([] ++ M) H (N'.length - ds.length) dn i s hi'
        rw [← dn.length] at this
        simpa using this
    · intro i l xs hi
      exfalso
      cases i with
      | zero => cases hi
      | succ i =>
        have hi' : (slots N' ds)[i]? = some (.own l xs) := by simpa using hi
        unfold slots at hi'
        rcases List.mem_append.mp (List.mem_of_getElem? hi') with z | z
        · obtain ⟨d, _, e⟩ := List.mem_map.mp z
          cases e
        · cases (List.eq_of_mem_replicate z)
    · intro i j l xs ys hi hj
      exfalso
      cases i with
      | zero => cases hi
      | succ i =>
        have hi' : (slots N' ds)[i]? = some (.own l xs) := by simpa using hi
        unfold slots at hi'
        rcases List.mem_append.mp (List.mem_of_getElem? hi') with z | z
        · obtain ⟨d, _, e⟩ := List.mem_map.mp z
          cases e
        · cases (List.eq_of_mem_replicate z)
    · intro i w' hi
      cases i with
      | zero =>
        cases hi
        exact List.mem_singleton.mpr rfl
      | succ i =>
        exfalso
        have hi' : (slots N' ds)[i]? = some (.well w') := by simpa using hi
        unfold slots at hi'
        rcases List.mem_append.mp (List.mem_of_getElem? hi') with z | z
        · obtain ⟨d, _, e⟩ := List.mem_map.mp z
          cases e
        · cases (List.eq_of_mem_replicate z)
  exact hb _ w ds hp _ _ _ E0 ⟨fun L Γ σ H' hq E' => q _ _ H' (fun a o ne e => E'.fr a o (fun z => ne (List.mem_singleton.mp z)) e) (E'.ws w (List.mem_singleton.mpr rfl)) .non hq,
    fun v d H' hq o dn => q v d H' (fun a o' ne e => o.fr a o' (fun z => ne (List.mem_singleton.mp z)) e) (o.ws w (List.mem_singleton.mpr rfl)) dn hq, fun _ _ _ _ z => z.elim, fun _ _ _ _ z => z.elim⟩
end
end DL
namespace PySem.HT
open PySem PySem.Spec PyProof.Rows
section
variable {prog : Program} {w : World} {A : Around} {E : Value → Shared → Prop} {s : Shared}
end
end PySem.HT
namespace DL
open PySem PySem.Spec PyProof.Rows L2
section
variable {X : Cx}
/-! ### more rules -/
theorem op_or {f : Value → Value → Sem Value} {r r' : R2} (h : OpR X f r) (h' : OpR X f r') : OpR X f (fun x y H Q => r x y H Q ∨ r' x y H Q) := fun pins s σ H x y v u Q I rx ry q => by
  rcases q with q | q
  · exact h pins s σ H x y v u Q I rx ry q
  · exact h' pins s σ H x y v u Q I rx ry q
def rAddA (K : PySem.W.Frag) : R2 := fun x y H Q => rI0 (fun i j => .int (i + j)) x y H Q ∨ (rCatA K x y H Q ∨ rCat x y H Q)
theorem op_addA : OpR X (binaryOp .Add) (rAddA X.K) := op_or op_add (op_or op_catA op_cat)
def rMulA (K : PySem.W.Frag) : R2 := fun x y H Q => rI CMul (fun i j => .int (i * j)) x y H Q ∨ (rI CMulW (fun i j => .int (i * j)) x y H Q ∨ (rRep x y H Q ∨ rRepT K x y H Q))
theorem op_mulA : OpR X (binaryOp .Mult) (rMulA X.K) := op_or op_mul (op_or op_mulW (op_or op_rep op_repT))
def rFdA : R2 := fun x y H Q => rI CDiv (fun i j => .int (i / j)) x y H Q ∨ (rI CDivW (fun i j => .int (i / j)) x y H Q ∨ rI CDivN (fun i j => .int (i.fdiv j)) x y H Q)
theorem op_fdA : OpR X (binaryOp .FloorDiv) rFdA := op_or op_fdiv (op_or op_fdivW op_fdivN)
def rModA : R2 := fun x y H Q => rI (fun _ j => 0 < j) (fun i j => .int (i % j)) x y H Q ∨ rI (fun _ j => j ≠ 0) (fun i j => .int (i.fmod j)) x y H Q
theorem op_modA : OpR X (binaryOp .Mod) rModA := op_or op_mod op_modN
def rSlX2 (K : PySem.W.Frag) : V → Option Int → Option Int → Hp → VK → Prop := fun x lo hi H Q => rSlA K x lo hi H Q ∨ rSlL K x lo hi H Q
theorem sl_any : SlR X (rSlX2 X.K) := sl_tupA.or sl_list
/-! f(k = v, ..), all parameters by name, in their order -/
variable {x : Str} {p pos : Pos} {k : Nat} {f : Addr} {fd : FuncData} {ps ks : List Str} {sp : Sp} {CX : CXT} {E : XK} {tk : TA} {kws : List Keyword}
end
section
variable {K : PySem.W.Frag} {B : Bs} {G : List Hp} {L : List Addr} {Γ : List Sl} {H H' H2 : Hp} {σ : L2.St}
variable {te ta tb tc tl : TE} {tt tu : TT} {tr : TA} {k : PyData → Prop} {x y : PyData} {P P' : PD} {t u : TS}
theorem ROk.l {r r' : R2} (h : ROk K B G L Γ r x y k) : ROk K B G L Γ (fun x y H Q => r x y H Q ∨ r' x y H Q) x y k := fun σ H Q v u E d1 d2 q => .inl (h σ H Q v u E d1 d2 q)
theorem ROk.r {r r' : R2} (h : ROk K B G L Γ r' x y k) : ROk K B G L Γ (fun x y H Q => r x y H Q ∨ r' x y H Q) x y k := fun σ H Q v u E d1 d2 q => .inr (h σ H Q v u E d1 d2 q)
theorem ro_add {i j : Int} (hk : k (.int (i + j))) : ROk K B G L Γ (rAddA K) (.int i) (.int j) k := ROk.l (rok_i0 hk)
theorem ro_catT {ds es : List PyData} (hl : ds.length + es.length ≤ 1000000) (hk : k (.tuple (ds ++ es))) : ROk K B G L Γ (rAddA K) (.tuple ds) (.tuple es) k := ROk.r (ROk.l (rok_catT hl hk))
theorem ro_catL {ds es : List PyData} (hl : ds.length + es.length ≤ 1000000) (hk : k (.list (ds ++ es))) : ROk K B G L Γ (rAddA K) (.list ds) (.list es) k := ROk.r (ROk.r (rok_catL hl hk))
theorem ro_mul {i j : Int} (hc : CMul i j) (hk : k (.int (i * j))) : ROk K B G L Γ (rMulA K) (.int i) (.int j) k := ROk.l (rok_i hc hk)
theorem ro_mulW {i j : Int} (hc : CMulW i j) (hk : k (.int (i * j))) : ROk K B G L Γ (rMulA K) (.int i) (.int j) k := ROk.r (ROk.l (rok_i hc hk))
theorem ro_fd {i j : Int} (hc : 0 < j ∧ j < 1073741824) (hk : k (.int (i / j))) : ROk K B G L Γ rFdA (.int i) (.int j) k := ROk.l (rok_i hc hk)
theorem ro_fdW {i j : Int} (hc : CDivW i j) (hk : k (.int (i / j))) : ROk K B G L Γ rFdA (.int i) (.int j) k := ROk.r (ROk.l (rok_i hc hk))
theorem ro_mod {i j : Int} (hc : 0 < j) (hk : k (.int (i % j))) : ROk K B G L Γ rModA (.int i) (.int j) k := ROk.l (rok_i (C := fun _ j => 0 < j) hc hk)
theorem so_tup {ds : List PyData} {lo hi : Option Int} (hk : k (.tuple (cutD ds lo hi))) : SOk K B G L Γ (rSlX2 K) (.tuple ds) lo hi k := fun σ H Q v E d1 q => .inl (sok_tup hk σ H Q v E d1 q)
theorem so_lst {ds : List PyData} {lo hi : Option Int} (hk : k (.list (cutD ds lo hi))) : SOk K B G L Γ (rSlX2 K) (.list ds) lo hi k := fun σ H Q v E d1 q => .inr (sok_lst hk σ H Q v E d1 q)
/-- divmod, its pair unpacked into a place of the well and a name: not general -/
theorem ev_dict (hk : k (.dict [])) : EvP K B G L Γ (fun (_ : L2.St) H Q => ∀ d, H d = none → Q (.ref d) (upd H d (.dK []))) k := fun σ H Q E q d hd => by
  have g := Go.new (o := .dK []) E hd
  exact q _ _ _ g (.emp (hid_new (E.newM hd))) hk
/-- a test by None -/
def isNoneD : PyData → Bool
  | .none => true
  | _ => false
theorem ev_isN (h : EvP K B G L Γ te fun d => k (.bool (isNoneD d))) : EvP K B G L Γ (tIsN te) k := fun σ H Q E q =>
  h σ H _ E fun v d H1 g1 dn hk => by
    have e : decide (v = V.non) = isNoneD d := by cases dn <;> simp [isNoneD]
    show Q (.bl (decide (v = V.non))) H1
    rw [e]
    exact q _ _ H1 g1 (.bl _) hk
/-- the truth of data -/
def truD : PyData → Bool
  | .none => false
  | .bool b => b
  | .int i => i != 0
  | .str s => s.length != 0
  | .list ds => !ds.isEmpty
  | .tuple ds => !ds.isEmpty
  | .dict ds => !ds.isEmpty
end
end DL
namespace DL
open PySem PySem.Spec PyProof.Rows L2
/-! ### names for the built-ins' readings -/
def rAbsQ : List V → Hp → VK → Prop := fun xs H Q => ∃ i, xs = [.int i] ∧ Q (.int (if i < 0 then -i else i)) H
def rIntQ : List V → Hp → VK → Prop := fun xs H Q => (∃ i, xs = [.int i] ∧ Q (.int i) H) ∨ ∃ k, xs = [.bl k] ∧ Q (.int (if k then 1 else 0)) H
def rListQ (K : PySem.W.Frag) : List V → Hp → VK → Prop := fun xs H Q => ∃ p ys, xs = [.ref p] ∧ (SqL K H p ys ∨ SqT K H p ys) ∧ ∀ l, H l = none → Q (.ref l) (upd H l (.lst ys))
def rTupleQ (K : PySem.W.Frag) : List V → Hp → VK → Prop := fun xs H Q => ∃ p ys, xs = [.ref p] ∧ ((SqL K H p ys ∧ ∀ l, H l = none → Q (.ref l) (upd H l (.tup ys))) ∨ (SqT K H p ys ∧ Q (.ref p) H))
def rMax2Q : List V → Hp → VK → Prop := fun xs H Q => ∃ i j, xs = [.int i, .int j] ∧ Q (.int (if j > i then j else i)) H
def tTru (K : PySem.W.Frag) (te : TE) : TT := fun σ H Q => te σ H fun x H' => ∃ k, TruV K x H' k ∧ Q k H'
section
variable {K : PySem.W.Frag} {B : Bs} {G : List Hp} {L : List Addr} {Γ : List Sl} {H H' H2 : Hp} {σ : L2.St}
variable {te ta tb tc tl : TE} {tt tu : TT} {tr : TA} {k : PyData → Prop} {x y : PyData} {P P' : PD} {t u : TS}
theorem co_lenT {ds : List PyData} (hk : k (.int ds.length)) : COk K B G L Γ (rLenQ K) [.tuple ds] k := cok_lenT hk
theorem co_lenL {ds : List PyData} (hk : k (.int ds.length)) : COk K B G L Γ (rLenQ K) [.list ds] k := cok_lenL hk
theorem co_abs {i : Int} (hk : k (.int (if i < 0 then -i else i))) : COk K B G L Γ rAbsQ [.int i] k := cok_abs hk
theorem co_int {i : Int} (hk : k (.int i)) : COk K B G L Γ rIntQ [.int i] k := cok_intI hk
theorem co_tupL {ds : List PyData} (hk : k (.tuple ds)) : COk K B G L Γ (rTupleQ K) [.list ds] k := cok_tupL hk
theorem ev_tupOwn {i : Nat} {l : Addr} {xs : List PyData} (hi : Γ[i]? = some (.own l xs)) (hk : k (.tuple xs)) : EvP K B G L Γ (tCB (rTupleQ K) (tCons (tVar i) tNil)) k := ev_tupO hi hk
theorem ev_lenOwn {i : Nat} {l : Addr} {xs : List PyData} (hi : Γ[i]? = some (.own l xs)) (hk : k (.int xs.length)) : EvP K B G L Γ (tCB (rLenQ K) (tCons (tVar i) tNil)) k := ev_lenO hi hk
theorem ev_ixOwn {i : Nat} {l : Addr} {xs : List PyData} (hi : Γ[i]? = some (.own l xs)) (h : EvP K B G L Γ tb fun n => ∃ j d, n = .int j ∧ atI xs j = some d ∧ k d) : EvP K B G L Γ (tOp (rIx K) (tVar i) tb) k := fun σ H Q E q => by
  obtain ⟨v, e, h2⟩ := ev_ixO hi h σ H Q E q
  refine ⟨v, e, ?_⟩
  obtain ⟨e', ws, hl, _⟩ := E.getO hi
  exact h σ H _ E fun u n H2 g2 dn2 ⟨j, d, en, ed, hk⟩ => by
    subst en
    obtain ⟨e3, ws, hl2, dn3⟩ := g2.env.getO hi
    obtain ⟨w, e2, dn4⟩ := dna_at dn3 ed
    rw [e] at e3
    have : v = .ref l := Option.some.inj (Option.some.inj e3)
    exact .inl ⟨l, ws, j, w, this, dn_int dn2, .inl (.inl hl2), e2, q _ _ H2 g2 dn4 hk⟩
theorem en_listQ {kl : List PyData → Prop} (h : EvP K B G L Γ te fun d => ∃ ds, (d = .tuple ds ∨ d = .list ds) ∧ kl ds) : EvN K B G L Γ (tCB (rListQ K) (tCons te tNil)) kl := en_list h
/-- an item of the well -/
theorem ev_well {i : Nat} {w : Addr} (hi : Γ[i]? = some (.well w)) (h : EvP K B G L Γ tb fun n => ∃ j, n = .int j ∧ (j = 0 ∨ j = 1 ∨ j = 2) ∧ ∀ n : Int, (j = 0 → 0 ≤ n) → (j = 1 → 0 ≤ n ∧ n < 1099511627776) → k (.int n)) : EvP K B G L Γ (tOp (rIx K) (tVar i) tb) k := fun σ H Q E q =>
  ⟨_, E.getW hi, h σ H _ E fun u n H2 g2 dn2 ⟨j, en, hj, hk⟩ => by
    subst en
    obtain ⟨a, b, c, e, h0, h1, h2⟩ := g2.env.ws w (g2.env.we i w hi)
    have z : u = .int j := dn_int dn2
    rcases hj with rfl | rfl | rfl
    · exact .inl ⟨w, _, 0, .int a, rfl, z, .inl (.inl e), rfl, q _ _ H2 g2 (.int a) (hk a (fun _ => h0) (by omega))⟩
    · exact .inl ⟨w, _, 1, .int b, rfl, z, .inl (.inl e), rfl, q _ _ H2 g2 (.int b) (hk b (by omega) (fun _ => ⟨h1, h2⟩))⟩
    · exact .inl ⟨w, _, 2, .int c, rfl, z, .inl (.inl e), rfl, q _ _ H2 g2 (.int c) (hk c (by omega) (by omega))⟩⟩
/-- the well changed in one place -/
theorem Env.stir {w : Addr} {vs : List V} (E : Env K B G L H σ Γ) (hw : w ∈ B.Ws) (h : WellAt (upd H w (.lst vs)) w) : Env K B G L (upd H w (.lst vs)) σ Γ := by
  refine (E.step (fun a o wn e => ?_) fun w' hw' => ?_).1
  · rw [upd_ne (fun (z : a = w) => wn (by rw [z]; exact hw))]
    exact e
  · by_cases z : w' = w
    · rw [z]; exact h
    · obtain ⟨n, b, c, e, q⟩ := E.ws w' hw'
      exact ⟨n, b, c, by rw [upd_ne z]; exact e, q⟩
/-- well[j] = e -/
theorem st_setWell {i : Nat} {w : Addr} (hi : Γ[i]? = some (.well w)) (h : EvP K B G L Γ te fun d => EvP K B G L Γ tb fun n => ∃ z j : Int, d = .int z ∧ n = .int j ∧ (j = 0 ∨ j = 1 ∨ j = 2) ∧ (j = 0 → 0 ≤ z) ∧ (j = 1 → 0 ≤ z ∧ z < 1099511627776) ∧ P.nx L Γ) :
    StP K B G L Γ (tAsg te (gSub (tVar i) tb rSetL)) P := fun σ H D E M =>
  h σ H _ E fun v d H1 g1 dn1 h2 => ⟨_, g1.env.getW hi, h2 σ H1 _ g1.env fun u n H2 g2 dn2 ⟨z, j, ed, en, hj, hz0, hz1, hk⟩ => by
    subst ed en
    have ev : v = .int z := dn_int dn1
    have eu : u = .int j := dn_int dn2
    have hw := g2.env.we i w hi
    obtain ⟨a, b, c, e, h0, h1, h2⟩ := g2.env.ws w hw
    rcases hj with rfl | rfl | rfl
    · refine ⟨w, _, 0, 0, rfl, eu, e, rfl, M.nx _ _ _ _ hk (g2.env.stir hw ?_)⟩
      subst ev
      exact ⟨z, b, c, upd_same, hz0 rfl, h1, h2⟩
    · refine ⟨w, _, 1, 1, rfl, eu, e, rfl, M.nx _ _ _ _ hk (g2.env.stir hw ?_)⟩
      subst ev
      exact ⟨a, z, c, upd_same, h0, (hz1 rfl).1, (hz1 rfl).2⟩
    · refine ⟨w, _, 2, 2, rfl, eu, e, rfl, M.nx _ _ _ _ hk (g2.env.stir hw ?_)⟩
      subst ev
      exact ⟨a, b, z, upd_same, h0, h1, h2⟩⟩
/-- a test of data by its truth -/
theorem et_tru {kb : Bool → Prop} (h : EvP K B G L Γ te fun d => (match d with | .str s => s.length ≤ 1000000 | _ => True) ∧ kb (truD d)) : EvT K B G L Γ (tTru K te) kb := fun σ H Q E q =>
  h σ H _ E fun v d H1 g1 dn ⟨hs, hk⟩ => by
    refine ⟨truD d, ?_, q _ H1 g1 hk⟩
    cases dn with
    | non => rfl
    | bl b => rfl
    | int i => rfl
    | str x =>
      refine ⟨sz_ok hs, ?_⟩
      show (x.length != 0) = ((x.length : Int) != 0)
      rcases Nat.eq_zero_or_pos x.length with h | h
      · rw [h]; rfl
      · have a : (x.length != 0) = true := by simp; omega
        have b : ((x.length : Int) != 0) = true := by simp; omega
        rw [a, b]
    | @lst a xs ds e h2 =>
      refine .inl ⟨xs, .inl (.inl (hid_sub _ _ _ _ e)), ?_⟩
      have := h2.length
      cases xs <;> cases ds <;> simp_all [truD]
    | @tup a xs ds e h2 =>
      refine .inr (.inl ⟨xs, Same.sqt (hid_sub _ _) e, ?_⟩)
      have := h2.length
      cases xs <;> cases ds <;> simp_all [truD]
    | emp e => exact .inr (.inr ⟨[], hid_sub _ _ _ _ e, rfl⟩)
/-- a < b < c -/
theorem ev_chain {r r' : R2} (h : EvP K B G L Γ ta fun x => EvP K B G L Γ tb fun y => ROk K B G L Γ r x y fun z => ∃ b, z = .bool b ∧ (b = true → EvP K B G L Γ tc fun w => ROk K B G L Γ r' y w k) ∧ (b = false → k (.bool false))) : EvP K B G L Γ (tChain r r' ta tb tc) k := fun σ H Q E q =>
  h σ H _ E fun v x H1 g1 dn1 h1 => h1 σ H1 _ g1.env fun u y H2 g2 dn2 h2 => h2 σ H2 _ v u g2.env (dn1.mono g2.sm) dn2 fun z d H3 g3 dn3 ⟨b, e, c1, c2⟩ => by
    subst e
    refine ⟨b, dn_bool dn3, ?_⟩
    cases b with
    | true => exact iteT (c1 rfl σ H3 _ g3.env fun w' d4 H4 g4 dn4 h4 => h4 σ H4 Q u w' g4.env ((dn2.mono g3.sm).mono g4.sm) dn4 fun z d H5 g5 dn5 hk => q z d H5 ((((g1.trans g2).trans g3).trans g4).trans g5) dn5 hk)
    | false => exact iteF (q _ _ H3 ((g1.trans g2).trans g3) (.bl false) (c2 rfl))
theorem ev_dictD (hk : k (.dict [])) : EvP K B G L Γ tDNewK k := ev_dict hk
end
end DL
namespace DL
open PySem PySem.Spec PyProof.Rows L2
theorem len_P {K : PySem.W.Frag} {pre : List PyData → Prop} {post : List PyData → PyData → Prop} {vs : List V} {H : Hp} {Q : VK} {E : XK} (h : SpP K pre post vs H Q E) {n : Nat} (hn : ∀ ds, pre ds → ds.length = n) : vs.length = n := by
  obtain ⟨M, ds, _, dn, hp, _⟩ := h
  rw [dn.length, hn ds hp]
theorem len_W {K : PySem.W.Frag} {pre : List PyData → Prop} {post : List PyData → PyData → Prop} {vs : List V} {H : Hp} {Q : VK} {E : XK} (h : SpW K pre post vs H Q E) {n : Nat} (hn : ∀ ds, pre ds → ds.length = n) : vs.length = n + 1 := by
  obtain ⟨M, w, vs', ds, rfl, _, _, _, dn, hp, _⟩ := h
  rw [List.length_cons, dn.length, hn ds hp]
theorem wipe1 (i : Nat) : ∀ (σ : L2.St) (x : V), L2.wipe ((L2.wipe σ [i]).set i (some x)) [i] = L2.wipe σ [i] := fun σ x => by
  show (((σ.set i none).set i (some x)).set i none) = σ.set i none
  rw [List.set_set, List.set_set]
end DL
namespace DL
open PySem PySem.Spec PyProof.Rows L2
def isIntT : PyData → Bool
  | .int _ => true
  | .bool _ => true
  | _ => false
def isBoolT : PyData → Bool
  | .bool _ => true
  | _ => false
def isTupT : PyData → Bool
  | .tuple _ => true
  | _ => false
theorem kit_int (d : PyData) : kitB (tyD d) "int" = some (isIntT d) := by
  cases d <;> (simp only [tyD, isIntT]; decide +kernel)
theorem kit_bool (d : PyData) : kitB (tyD d) "bool" = some (isBoolT d) := by
  cases d <;> (simp only [tyD, isBoolT]; decide +kernel)
theorem kit_tup (d : PyData) : kitB (tyD d) "tuple" = some (isTupT d) := by
  cases d <;> (simp only [tyD, isTupT]; decide +kernel)
section
variable {K : PySem.W.Frag} {B : Bs} {G : List Hp} {L : List Addr} {Γ : List Sl} {te : TE} {k : PyData → Prop}
theorem ev_isiInt (h : EvP K B G L Γ te fun d => k (.bool (isIntT d))) : EvP K B G L Γ (tCB (rIsi K) (tCons te (tCons (tC (.ty "int")) tNil))) k := ev_isi (h.mono fun d hk => ⟨_, kit_int d, hk⟩)
theorem ev_isiBool (h : EvP K B G L Γ te fun d => k (.bool (isBoolT d))) : EvP K B G L Γ (tCB (rIsi K) (tCons te (tCons (tC (.ty "bool")) tNil))) k := ev_isi (h.mono fun d hk => ⟨_, kit_bool d, hk⟩)
theorem ev_isiTup (h : EvP K B G L Γ te fun d => k (.bool (isTupT d))) : EvP K B G L Γ (tCB (rIsi K) (tCons te (tCons (tC (.ty "tuple")) tNil))) k := ev_isi (h.mono fun d hk => ⟨_, kit_tup d, hk⟩)
theorem isTupT_true {d : PyData} (h : isTupT d = true) : ∃ xs, d = .tuple xs := by
  cases d <;> simp [isTupT] at h
  exact ⟨_, rfl⟩
end
end DL
namespace DL
open PySem PySem.Spec PyProof.Rows L2
section
variable {K : PySem.W.Frag} {B : Bs} {G : List Hp} {L : List Addr} {Γ : List Sl} {te : TE} {P : PD}
end
end DL

namespace DL
open PySem
theorem sz_and {n : Nat} {p : Prop} (h : n ≤ 1000000) (hp : p) : n ≤ 1000000 ∧ p := ⟨h, hp⟩
end DL

namespace DL
open PySem L2
section
variable {K : PySem.W.Frag} {B : Bs} {G : List Hp} {L : List Addr} {Γ : List Sl} {k : PyData → Prop}
theorem ro_mulL {i j : Int} (h0 : -18446744073709551616 < i) (h1 : i < 18446744073709551616) (hk : k (.int (i * j))) : ROk K B G L Γ (rMulA K) (.int i) (.int j) k := ro_mul (Or.inl ⟨h0, h1⟩) hk
end
end DL
/-! enumerate over a tuple -/
namespace PySem
open Sem (wp)
open AutoSeq1 (wpAny_loadPart')
namespace EnT
theorem draws_tuple {prog : Program} {w : World} {A : Around} (hh : A.handled = none) (it t : Addr) (hne : t ≠ it) (items : Array Value) :
    Draws prog w A it [it, t] items.size (fun i v => items[i]? = some v) (fun i h => h.IsTupleIter it t i ∧ h.IsTuple t items) where
  live := fun _ _ st => let ⟨o, ho, _⟩ := st.1; ⟨o, ho⟩
  frame := fun _ _ _ st hk => ⟨st.1.at fun o e => hk it (by simp) o e, let ⟨o, ho, r⟩ := st.2; ⟨o, hk t (by simp) o ho, r⟩⟩
  item := fun i s Q E hi st hQ => by
    refine wpAny_nextOf_tuple_item st.1 st.2 (x := items[i]) (by simp [hi]) fun h' hit' hs' => ?_
    exact hQ _ h' s.toks (by simp [hi]) ⟨hit', let ⟨o, ho, r⟩ := st.2; ⟨o, hs'.extBut t o hne ho, r⟩⟩ hs'
  done := fun s Q E st hE => wpAny_nextOf_tuple_end hh st.1 st.2 (by simp) hE
theorem meets_new (l : Addr) (items : Array Value) :
    Meets (Builtin.«enumerate.__new__» ⟨[.type "enumerate", .ref l], []⟩) (fun _ R s => s.heap.IsTuple l items ∧
      R (.ok (.ret (.ref (s.heap.push { cls := .type "tuple_iterator", data := .fields #[.ref l, .int 0 0] }).objs.size)))
        { s with heap := (s.heap.push { cls := .type "tuple_iterator", data := .fields #[.ref l, .int 0 0] }).push { cls := .type "enumerate", data := .fields #[.none, .bool false, .ref s.heap.objs.size, rawInt 0, .none, .none] } }) :=
  .of_wp fun prog w A R s h => by
    obtain ⟨hp, g, d, tk, os⟩ := s; obtain ⟨hL, h⟩ := h
    have hsub := sub_enumerate
    wp_walk
    refine wpAny_stack_any fun st => wpAny_pure ?_
    split
    · rename_i c _ _ _ _ _
      cases (c == Value.type "enumerate")
      · wp_walk using wpAny_pyIter_tuple hL
        exact ⟨_, rfl, h⟩
      · wp_walk using wpAny_pyIter_tuple hL
        exact ⟨_, rfl, h⟩
    · wp_walk using wpAny_pyIter_tuple hL
      exact ⟨_, rfl, h⟩
section
variable {prog : Program} {w : World} {A : Around} {E : Value → Shared → Prop} {s : Shared}
theorem call_enum {l : Addr} {items : Array Value} {Q : Value → Shared → Prop} (hL : s.heap.IsTuple l items)
    (h : ∀ h', IsEnum h' (s.heap.objs.size + 1) s.heap.objs.size 0 .none → h'.IsTupleIter s.heap.objs.size l 0 → h'.objs.size = s.heap.objs.size + 2 →
      (∀ b o, s.heap.get? b = some o → h'.get? b = some o) → Q (.ref (s.heap.objs.size + 1)) { s with heap := h' }) :
    wpAny (model prog w) A (call (.type "enumerate") [.ref l]) Q E s := by
  refine callType_new F.called_enumerate (by decide) (F.typeCall_enumerate_1 _) (F.newCall_enumerate_1 _) (fun obj => F.args_object_init_2 obj _) F.entry_enumerate_new
    (meets_new l items) ⟨hL, ?_⟩
  have hz : (s.heap.push { cls := .type "tuple_iterator", data := .fields #[.ref l, .int 0 0] }).objs.size = s.heap.objs.size + 1 := Heap.size_push ..
  show _ ∧ _
  rw [hz]
  have he : IsEnum ((s.heap.push { cls := .type "tuple_iterator", data := .fields #[.ref l, .int 0 0] }).push
      { cls := .type "enumerate", data := .fields #[.none, .bool false, .ref s.heap.objs.size, rawInt 0, .none, .none] }) (s.heap.objs.size + 1) s.heap.objs.size 0 .none := by
    have := Heap.get?_push_size (s.heap.push { cls := .type "tuple_iterator", data := .fields #[.ref l, .int 0 0] })
      (o := { cls := .type "enumerate", data := .fields #[.none, .bool false, .ref s.heap.objs.size, rawInt 0, .none, .none] }) rfl
    rw [hz] at this; exact this
  refine ⟨⟨_, he, rfl⟩, h _ he ⟨_, Heap.get?_push_of_some _ (Heap.get?_push_size _ rfl), rfl, rfl⟩ (by rw [Heap.size_push, hz]) fun b o x => Heap.get?_push_of_some _ (Heap.get?_push_of_some _ x)⟩
theorem next_end {e it l : Addr} {i : Nat} {j : Int} {items : Array Value} {old : Value} {Q : Option Value → Shared → Prop} (hh : A.handled = none)
    (he : IsEnum s.heap e it j old) (hit : s.heap.IsTupleIter it l i) (hl : s.heap.IsTuple l items) (hx : items[i]? = none)
    (hQ : ∀ h', Heap.ExtBut it s.heap h' → Q none { s with heap := h' }) : wpAny (model prog w) A (pyNext (.ref e)) Q E s := by
  have hT : s.TypeIs (.ref e) "enumerate" := ⟨_, he, rfl⟩
  unfold pyNext
  refine wpAny_bind (wpAny_attempt (wpAny_callSpecial?_slot (name := Str.ofString "__next__") hT F.slot_enumerate_next
    (wpAny_call_entry F.slot_enumerate_next hT F.entry_enumerate_next ?_ (F.args_enumerate_next_1 _))))
  show wpAny _ _ (field (.ref e) 2 >>= _) _ _ _
  refine wpAny_bind (wpAny_field he rfl (x := .ref it) rfl ?_)
  refine wpAny_bind (wpAny_nextOf_tuple_end hh hit hl hx fun h' x he' hx' => ?_)
  obtain ⟨o, ho, hc⟩ := hx'
  refine wpAny_bind (wpAny_isInstance (T := "StopIteration") (b := true) ⟨o, ho, hc⟩ isSubtype_stop ?_)
  exact wpAny_pure (hQ _ he')
end
end EnT
end PySem
namespace DL
open PySem PySem.Spec PyProof.Rows L2
/-- the tuple at a, each item in a new pair with its place -/
def IteT (K : PySem.W.Frag) (a : Addr) : It :=
  ⟨fun i H => ∃ (xs : List V) (x : V), SqT K H a xs ∧ xs[i]? = some x, fun i H v H' => ∃ T x, v = .ref T ∧ H T = none ∧ H' = upd H T (.tup [.int (i : Nat), x]) ∧ ∀ xs, SqT K H a xs → xs[i]? = some x, fun i H => ∃ xs : List V, SqT K H a xs ∧ xs.length ≤ i⟩
theorem turn_enumT {P : Program} {w : World} {K : PySem.W.Frag} {elts : List Expr} {kk : Nat} {tpos : Pos} (a e it : Addr) (ha : a ≠ it) (hae : a ≠ e) :
    Turn P w K (.Tuple elts kk tpos) (IteT K a) [e, it] e (fun i h => (∃ old, IsEnum h e it ((i : Nat) : Int) old) ∧ h.IsTupleIter it a i ∧ e ≠ it) where
  mem := by simp
  obj := fun i h st b hb => by
    obtain ⟨⟨old, he⟩, ⟨o, ho, hc, hd⟩, _⟩ := st
    have e' : b = e ∨ b = it := by simpa using hb
    rcases e' with z | z
    · rw [z]; exact ⟨_, he, fun v q => nomatch q⟩
    · rw [z]; exact ⟨o, ho, fun v q => by rw [hd] at q; cases q⟩
  keep := fun i h h' st k => let ⟨⟨old, he⟩, hi, hne⟩ := st; ⟨⟨old, k e (by simp) _ he⟩, hi.at fun o q => k it (by simp) o q, hne⟩
  item := by
    intro X hP hw hK hc i pins s σ H E I hf st hg
    subst hP hw hK
    obtain ⟨⟨old, he⟩, hit, hne⟩ := st
    obtain ⟨xs, x, hq, hx⟩ := hg
    obtain ⟨its, rv, p, hz⟩ := I.tuple hq
    obtain ⟨u, hu, ru⟩ := rv.get hx
    have hel : e < s.heap.objs.size := Heap.lt_size he
    have hil : it < s.heap.objs.size := by obtain ⟨_, q, _⟩ := hit; exact Heap.lt_size q
    have hT0 : s.heap.IsTuple a its.toArray := p
    have D := PySem.EnT.draws_tuple (prog := X.prog) (w := X.w) (A := X.A.in1) (I.ok.hd hc) it a ha its.toArray
    have hi' : i < its.toArray.size := by
      have := (List.getElem?_eq_some_iff.mp hu).1
      rw [List.size_toArray]; exact this
    refine wpAny_pyNext_enum_itemD D he ⟨hit, hT0⟩ hi' hne (by simp [hne, Ne.symm hae]) fun y h' tk hy ho hit' hT hsz hk => ?_
    have ey : y = u := by
      have : (its.toArray)[i]? = some u := by simpa using hu
      rw [this] at hy
      exact (Option.some.inj hy).symm
    subst ey
    refine ⟨_, rfl, wpAny_letOwnedTupleGo_enum (s := { s with heap := h', toks := tk + 1 }) ho fun h'' he' sb => ?_⟩
    have hT2 : h''.get? s.heap.objs.size = some { cls := .type "tuple", data := .seq #[.int i tk, y] } := (sb.2 _ (Nat.ne_of_gt hel)).trans hT
    have new : ObjOk X.prog X.w (upd H s.heap.objs.size (.tup [.int (i : Nat), x])) h'' s.heap.objs.size (.tup [.int (i : Nat), x]) :=
      ⟨by show 2 ≤ sizeLine; decide, [.int i tk, y], .cons ⟨_, rfl⟩ (.cons ru .nil), ⟨_, hT2, rfl, _, rfl⟩⟩
    have I1 : Inv X pins σ (upd H s.heap.objs.size (.tup [.int (i : Nat), x])) { s with heap := h'', toks := tk + 1 } :=
      I.turnedNew (ch := [e, it]) (fun b ob hb q => (sb.2 b (fun z => hb (by simp [z]))).trans (hk b ob (fun z => hb (by simp [z])) (fun z => hb (by simp [z])) q)) hf (Nat.le_refl _) new
    refine ⟨.ref s.heap.objs.size, _, I1, rfl, ⟨_, x, rfl, I.hok.fresh (Nat.le_refl _), rfl, fun ys hy => by rw [I.tuple_inj hy hq]; exact hx⟩, ⟨⟨y, ?_⟩, hit'.1.at fun o q => (sb.2 it (Ne.symm hne)).trans q, hne⟩, fun b hb => ?_⟩
    · have e1 : ((i + 1 : Nat) : Int) = (i : Int) + 1 := by omega
      rw [e1]; exact he'
    · have hb' : b < s.heap.objs.size := by
        have e' : b = e ∨ b = it := by simpa using hb
        rcases e' with z | z
        · rw [z]; exact hel
        · rw [z]; exact hil
      rw [upd_ne (Nat.ne_of_lt hb')]
      exact (hf b hb).1
  done := by
    intro X hP hw hK hc i pins s σ H E I hf st hg
    subst hP hw hK
    obtain ⟨⟨old, he⟩, hit, hne⟩ := st
    obtain ⟨xs, hq, hx⟩ := hg
    obtain ⟨its, rv, p, hz⟩ := I.tuple hq
    obtain ⟨f0, f1, f2, f3, f4, f5⟩ := hf it (by simp)
    have hl := rv.length
    have hT0 : s.heap.IsTuple a its.toArray := p
    exact PySem.EnT.next_end (I.ok.hd hc) he hit hT0 (by simp; omega) fun h' eb => ⟨rfl, I.turned (t' := s.toks) (fun b o hb q => eb b o hb q) f0 f1 f3 f4 f5⟩
  self := fun A i s Q E st h => let ⟨⟨_, he⟩, _⟩ := st; wpAny_pyIter_enum he h

def iEnumT (K : PySem.W.Frag) (ta : TA) : TI := fun σ H R => ta σ H fun vs H1 => ∃ a xs, vs = [.ref a] ∧ SqT K H1 a xs ∧ R (IteT K a) H1
theorem pi_enumT {X : Cx} {e : Expr} {ta : TA} {p pos tpos : Pos} {elts : List Expr} {kk : Nat} (hg : Gl X "enumerate") (hm : X.mg "enumerate" = none) (ha : PA X [e] ta) (hs : starEach [e] X.env = [(false, eval e X.env)] := by rfl) :
    PI X (.Tuple elts kk tpos) (.Call (.Name "enumerate" p) [e] [] pos) (iEnumT X.K ta) := by
  refine ⟨fun pins s σ H R I h => ?_⟩
  refine Call_ (ld_blt I hg hm boot_enumerate (PyProof.Rows.callWith_type1 (thn (ha.run pos pins s σ H _ I h) fun us s1 ⟨vs, H1, I1, r1, q1⟩ => ?_) hs rfl))
  obtain ⟨a, xs, ex, hq, q⟩ := q1
  subst ex
  cases r1 with
  | cons r rr =>
    cases rr
    cases r
    obtain ⟨its, rv, p', hz⟩ := I1.tuple hq
    have hal : a < s1.heap.objs.size := by
      obtain ⟨o, ho, _⟩ := p'
      exact Heap.lt_size ho
    refine PySem.EnT.call_enum (show s1.heap.IsTuple a its.toArray from p') fun h' he hit hsz hk => wpAny_pyIter_enum he ?_
    have I2 : Inv X pins σ H1 { s1 with heap := h' } := I1.kept (t' := s1.toks) hk
    refine ⟨s1.heap.objs.size + 1, [s1.heap.objs.size + 1, s1.heap.objs.size], _, _, H1, rfl, I2, turn_enumT a (s1.heap.objs.size + 1) s1.heap.objs.size (Nat.ne_of_lt hal) (Nat.ne_of_lt (Nat.lt_succ_of_lt hal)), ⟨⟨.none, he⟩, hit, Nat.succ_ne_self _⟩, fun b hb => ?_, q⟩
    have e' : b = s1.heap.objs.size + 1 ∨ b = s1.heap.objs.size := by simpa using hb
    have hle : s1.heap.objs.size ≤ b := by
      rcases e' with z | z
      · rw [z]; exact Nat.le_add_right _ _
      · rw [z]; exact Nat.le_refl _
    exact I1.fpOk hle (I1.hok.fresh hle)
section
variable {K : PySem.W.Frag} {B : Bs} {G : List Hp} {L : List Addr} {Γ : List Sl} {H : Hp} {σ : L2.St} {ta : TA} {P : PD} {t : TS}
theorem for_enumT {a : Addr} {xs : List V} {g : TG} {tb : TS} {D : Ends} {σ : L2.St} {H : Hp} (Pv : Nat → L2.St → Hp → Prop) (h0 : Pv 0 σ H) (hl : ∀ i σ H, i ≤ xs.length → Pv i σ H → SqT K H a xs)
    (hs : ∀ i x T σ H, xs[i]? = some x → Pv i σ H → H T = none → g (.ref T) σ (upd H T (.tup [.int (i : Nat), x])) fun σ2 H2 => tb { D with nx := Pv (i + 1), ct := Pv (i + 1), bk := D.nx } σ2 H2) (hd : ∀ σ H, Pv xs.length σ H → D.nx σ H) :
    ∃ W : Nat → Nat → L2.St → Hp → Prop, (∃ m, W 0 m σ H) ∧ ∀ i m σ H, W i m σ H →
      ((IteT K a).stop i H ∧ D.nx σ H) ∨ ((IteT K a).go i H ∧ ∃ N : L2.St → Hp → Prop, (∀ σ' H', N σ' H' → ∃ m', m' < m ∧ W (i + 1) m' σ' H') ∧ ∀ x H', (IteT K a).yld i H x H' → g x σ H' fun σ2 H2 => tb { D with nx := N, ct := N, bk := D.nx } σ2 H2) := by
  refine ⟨fun i m σ H => m = xs.length - i ∧ i ≤ xs.length ∧ Pv i σ H, ⟨xs.length, by simp, Nat.zero_le _, h0⟩, ?_⟩
  rintro i m σ H ⟨rfl, hi, p⟩
  have q := hl i σ H hi p
  by_cases hlt : i < xs.length
  · refine .inr ⟨⟨xs, xs[i], q, by simp [hlt]⟩, Pv (i + 1), fun σ' H' p' => ⟨xs.length - (i + 1), by omega, rfl, hlt, p'⟩, fun v H' y => ?_⟩
    obtain ⟨T, x, rfl, hT, rfl, hx⟩ := y
    exact hs i x T σ H (hx xs q) p hT
  · have e : i = xs.length := by omega
    subst e
    exact .inl ⟨⟨xs, q, Nat.le_refl _⟩, hd σ H p⟩
/-- for i, x in enumerate(a tuple) -/
theorem st_forE {j1 j2 : Nat} (h : EvA K B G L Γ ta fun vs => ∃ ds, vs = [.tuple ds] ∧ ∃ I : Nat → List Addr → List Sl → Prop, I 0 L Γ ∧
    (∀ i d' L' Γ' g, ds[i]? = some d' → I i L' Γ' → StP K B (g :: G) L' ((Γ'.set j1 (.d (.int (i : Int)))).set j2 (.d d')) t (P.inLoop (I (i + 1)))) ∧ ∀ L' Γ', I ds.length L' Γ' → P.nx L' Γ') :
    StP K B G L Γ (tFor (iEnumT K ta) (gTup K 2 (gCons (gName j1) (gCons (gName j2) gNil))) t) P := fun σ H D E M =>
  h σ H _ E fun vs dd H1 g1 dn ⟨ds, e, I, h0, hs, hd⟩ => by
    subst e
    cases dn with
    | cons dn dn2 =>
      cases dn2
      cases dn with
      | @tup a xs _ e1 h2 =>
        have E1 := g1.env.gpush
        refine ⟨a, xs, rfl, Same.sqt (hid_sub _ _) e1, for_enumT (xs := xs) (fun i σ' H' => ∃ L' Γ', I i L' Γ' ∧ Env K B (hid (L ++ B.M) H1 :: G) L' H' σ' Γ') ⟨L, Γ, h0, E1⟩ (fun i σ' H' _ ⟨L', Γ', _, E'⟩ => ?_) (fun i x T σ' H' hi ⟨L', Γ', hI, E'⟩ hT => ?_) (fun σ' H' ⟨L', Γ', hI, E'⟩ => ?_)⟩
        · exact Same.sqt (hid_sub _ _) (Same.sqt (E'.gh _ (List.mem_cons_self ..)) e1)
        · obtain ⟨d', e', dn'⟩ := h2.getV hi
          have gn := Go.new (o := .tup [.int (i : Nat), x]) E' hT
          have E2 := gn.env
          have dx := dn'.mono (E2.gh _ (List.mem_cons_self ..))
          refine ⟨T, _, rfl, .inl (.inl upd_same), rfl, _, _, rfl, _, _, rfl, rfl, ?_⟩
          refine hs i d' L' Γ' _ e' hI _ _ _ ((E2.put j1 (.int _)).put j2 dx) ⟨fun L2 Γ2 σ2 H2 q E2 => ⟨L2, Γ2, q, E2⟩, M.rt, fun L2 Γ2 σ2 H2 q E2 => M.nx _ _ _ _ q E2.gpop, fun L2 Γ2 σ2 H2 q E2 => ⟨L2, Γ2, q, E2⟩⟩
        · rw [h2.length] at hI
          exact M.nx _ _ _ _ (hd L' Γ' hI) E'.gpop
end
end DL
/-! Defs that show values by repr: where they run, nothing else is being shown. -/
namespace DL
open PySem PySem.Spec PyProof.Rows L2

/-- a def's promise where no container is being shown -/
structure FnG (P : Program) (w : World) (K : PySem.W.Frag) (mg : Str → Option Value) (base : Heap) (k : Nat) (f : Addr) (fd : FuncData) (ps : List Str) (sp : Sp) : Prop where
  len : ∀ vs H Q E, sp vs H Q E → vs.length = ps.length
  go : ∀ (B : Around) (fs : List PySem.Env) (t : Shared) (H : Hp) (gs : Args) (us : List Value) (vs : List V) (Q : VK) (E : XK),
    B.guards = some [] → Room k B → Env0 P w K mg base B fs t H → BindsTo t fd gs (ps.zip us) → Vals vs us → sp vs H Q E →
      codeAny (model P w) B (.call (.ref f) gs) (CR CX0 fs P w H t Q E) t

section
variable {P : Program} {w : World} {K : PySem.W.Frag} {mg : Str → Option Value} {base : Heap}

theorem Fun.okG {x qual : Str} {st : Stmt} {f : Addr} {fd : FuncData} {N ps : List Str} {k : Nat} {sp : Sp} (F : Fun K x qual st f fd) (S : FnScope N ps (defScope st))
    (len : ∀ vs H Q E, sp vs H Q E → vs.length = ps.length)
    (body : ∀ (cd : Value) (B : Around) (fs : List PySem.Env) (t : Shared) (H : Hp) (vs : List V) (Q : VK) (E : XK),
      (B.deeper (envOfC qual (defScope st) t.heap.objs.size f cd)).guards = some [] →
      Room k (B.deeper (envOfC qual (defScope st) t.heap.objs.size f cd)) → sp vs H Q E →
      ∃ r, PSs (cxOf CX0 P w K mg base N qual (defScope st) f cd B fs t H E).nox (defBody st) r ∧ r { nx := fun _ H' => Q .non H', rt := Q } (start N vs) H) :
    FnG P w K mg base (k + 1) f fd ps sp := by
  obtain ⟨oc, od, kV, doc, pm, an, cd, ct, osl, rfl, lk, hcd⟩ := F.ex
  refine ⟨len, ?_⟩
  intro B fs t H gs us vs Q E hg room e0 bt rv hsp
  have hl : vs.length = ps.length := len _ _ _ _ hsp
  have KT : K.In t.heap := e0.mod.kin.keeps fun b o e => (e0.bs b o e).1
  have nl : t.heap.NoLimit := e0.mod.nolimit.keeps fun b o e => (e0.bs b o e).1
  refine codeAny_call_function room.depth (KT _ _ lk) rfl S.co S.gen rfl (PySem.W.codeRec_of KT hcd) (bt _ _ _ _ ?_)
  refine wpAny_newFunctionEnv_cells S.kind (fun ⟨n, v⟩ hy => (S.par n (List.of_mem_zip hy).1).imp id fun q => ⟨q, PySem.W.cellsFrom_some _ _ _ (.inl q)⟩) ?_
  rintro env rfl t1 ic
  refine ⟨nl.keeps ic.toInCall.keep, codeAny_func ?_⟩
  obtain ⟨r, hr, hq⟩ := body cd B fs t H vs Q E hg (room.deeper _) hsp
  have I1 := inv_start (CX := CX0) (E := E) S room.hd e0 hl rv ic
  have go := hr.nox.run [] t1 (start N vs) H _ I1 hq
  refine wpAny_mono go ?_ fun _ _ z => z
  intro fl t2 ends
  rcases fl with _ | _ | _ | u
  · obtain ⟨σ2, H2, J, q⟩ := ends
    exact ⟨.non, H2, J.os, J.bare, J.base, J.hok, rfl, q⟩
  · obtain ⟨_, _, _, z⟩ := ends
    exact z.elim
  · obtain ⟨_, _, _, z⟩ := ends
    exact z.elim
  · obtain ⟨v, σ2, H2, J, ru, q⟩ := ends
    exact ⟨v, H2, J.os, J.bare, J.base, J.hok, ru, q⟩
end

/-! ### calls of such defs -/
section
variable {X : Cx} {k : Nat} {f : Addr} {fd : FuncData} {ps : List Str} {sp : Sp} {E : XK} {x : Str} {p pos : Pos} {e : Expr} {es : List Expr} {t : TA}
theorem pe_callG (F : FnG X.prog X.w X.K X.mg X.base k f fd ps sp) (room : Room k X.A) (gd : X.A.guards = some []) (gx : Gl X x) (mx : X.mg x = some (.ref f)) (kf : PySem.W.keepIn X.K (.ref f) = true) (bd : Binds X.K fd ps [])
    (ea : PA X (e :: es) t) (nd : (x == ("__debug__" : Str)) = false := by decide) (st : starEach (e :: es) X.env = (false, eval e X.env) :: starEach es X.env := by rfl)
    (pl : (backTo pos (starEach es X.env)).any (·.1) = false := by rfl) : PE X (.Call (.Name x p) (e :: es) [] pos) (tCall sp [] E t) := by
  constructor
  intro pins s σ H Q I tq
  refine wpAny_Call_Name_kw (ld_glob I gx mx (PySem.W.callWith_K (h₀ := X.base) I.ok.mod.kin kf (thn (ea.run pos pins s σ H _ I tq) ?_) st pl) nd)
  rintro us s1 ⟨vs, H1, I1, rv, q⟩
  refine ⟨I1.kIn, ?_⟩
  rw [List.append_nil] at q
  have hl : (us ++ []).length = ps.length := by
    rw [List.append_nil, ← rv.length]
    exact F.len _ _ _ _ q
  have bt := bd s1 us I1.kIn hl
  rw [List.append_nil] at bt
  refine wpAny_call (codeAny_mono (F.go X.A X.stack s1 H1 ⟨us, []⟩ us vs Q E gd room I1.env0 bt rv q) ?_)
  intro r s2 hr
  match r, hr with
  | .error _, hr => exact hr.elim
  | .ok (.ret u), hr => exact I1.after hr
  | .ok .next, hr => exact hr.elim
  | .ok .brk, hr => exact hr.elim
  | .ok .cont, hr => exact hr.elim
end

/-! ### repr -/
mutual
/-- how long a text can be -/
def cost : PyData → Nat
  | .list xs => costAll xs + 3
  | .tuple xs => costAll xs + 3
  | .str x => (reprText x).length
  | .dict _ => 0
  | _ => 1921
def costAll : List PyData → Nat
  | [] => 0
  | x :: xs => cost x + 2 + costAll xs
end
mutual
theorem shown_le : ∀ {d : PyData}, d.showable = true → d.hasDict = false → d.shown.length ≤ cost d
  | .none, _, _ => by decide
  | .bool true, _, _ => by decide
  | .bool false, _, _ => by decide
  | .int i, h, _ => by
    simp only [PyData.showable, decide_eq_true_eq] at h
    simp only [PyData.shown, cost]
    exact int_text_len_1921 h
  | .str x, _, _ => by simp only [PyData.shown, cost]; exact Nat.le_refl _
  | .list xs, h, h2 => by
    simp only [PyData.showable] at h
    simp only [PyData.hasDict] at h2
    have := shownAll_le h h2
    simp only [PyData.shown, cost]
    have := listText_len_le (PyData.shownAll xs)
    omega
  | .tuple xs, h, h2 => by
    simp only [PyData.showable] at h
    simp only [PyData.hasDict] at h2
    have := shownAll_le h h2
    simp only [PyData.shown, cost]
    have := tupleText_len_le (PyData.shownAll xs)
    omega
  | .dict _, _, h => by simp [PyData.hasDict] at h
theorem shownAll_le : ∀ {ds : List PyData}, PyData.showableAll ds = true → PyData.hasDictAll ds = false → ((PyData.shownAll ds).map (·.length)).sum + 2 * (PyData.shownAll ds).length ≤ costAll ds
  | [], _, _ => by simp [PyData.shownAll, costAll]
  | d :: ds, h, h2 => by
    simp only [PyData.showableAll, Bool.and_eq_true] at h
    simp only [PyData.hasDictAll, Bool.or_eq_false_iff] at h2
    have a := shown_le h.1 h2.1
    have b := shownAll_le h.2 h2.2
    simp only [PyData.shownAll, costAll, List.map_cons, List.sum_cons, List.length_cons]
    omega
end
mutual
theorem Dn.dp {K : PySem.W.Frag} {H : Hp} : ∀ {v : V} {d : PyData}, Dn K H v d → d.hasDict = false → Dp K H v d
  | _, _, .non, _ => .non
  | _, _, .bl b, _ => .bl b
  | _, _, .int i, _ => .int i
  | _, _, .str x, _ => .str x
  | _, _, .lst h1 h2, h => .lst (.inl (.inl h1)) (DnA.dp h2 (by simpa only [PyData.hasDict] using h))
  | _, _, .tup h1 h2, h => .tup h1 (DnA.dp h2 (by simpa only [PyData.hasDict] using h))
  | _, _, .emp _, h => by simp [PyData.hasDict] at h
theorem DnA.dp {K : PySem.W.Frag} {H : Hp} : ∀ {vs : List V} {ds : List PyData}, DnA K H vs ds → PyData.hasDictAll ds = false → DpAll K H vs ds
  | _, _, .nil, _ => .nil
  | _, _, .cons h1 h2, h => by
    simp only [PyData.hasDictAll, Bool.or_eq_false_iff] at h
    exact .cons (Dn.dp h1 h.1) (DnA.dp h2 h.2)
end
def rReprD (K : PySem.W.Frag) : List V → Hp → VK → Prop := fun xs H Q => ∃ (a : Addr) (d : PyData), xs = [.ref a] ∧ Dp K H (.ref a) d ∧ d.showable = true ∧ d.hasDict = false ∧ d.depth < 64 ∧ cost d ≤ sizeLine ∧ Q (.str d.shown) H
theorem call_reprD {X : Cx} (hu : X.A.units + 64 < cLine) (gd : X.A.guards = some []) : CallR X (.builtin "repr") (rReprD X.K) := by
  rintro pins s σ H xs us Q I r ⟨a, d, rfl, dp, sh, nd, dd, cz, q⟩
  obtain ⟨u, rfl, ru⟩ := vals1 r
  obtain rfl : u = Value.ref a := ru
  obtain ⟨as, rd⟩ := Dp.reads I d _ _ dp rfl
  refine repr_of_reads' rd sh (fun z => by rw [nd] at z; cases z) gd (by omega) (fun b o e => e) (fun h' u tk hk => ?_) (Nat.le_trans (shown_le sh nd) cz)
  exact ⟨.str d.shown, H, I.kept hk, ⟨_, rfl⟩, q⟩
section
variable {K : PySem.W.Frag} {B : Bs} {G : List Hp} {L : List Addr} {Γ : List Sl} {k : PyData → Prop}
def isBox : PyData → Bool
  | .list _ => true
  | .tuple _ => true
  | _ => false
theorem cok_repr {d : PyData} (hb : isBox d = true) (sh : d.showable = true) (nd : d.hasDict = false) (dd : d.depth < 64) (cz : cost d ≤ sizeLine) (hk : k (.str d.shown)) : COk K B G L Γ (rReprD K) [d] k := fun σ H Q vs E d1 q => by
  cases d1 with
  | cons h1 h2 =>
    cases h2
    have dp := Dn.dp (h1.mono (hid_sub _ _)) nd
    have go := q (.str d.shown) _ H (Go.refl E) (.str _) hk
    cases h1 with
    | lst _ _ => exact ⟨_, _, rfl, dp, sh, nd, dd, cz, go⟩
    | tup _ _ => exact ⟨_, _, rfl, dp, sh, nd, dd, cz, go⟩
    | _ => cases hb
end

/-! ### the head -/
/-- the script as the only thing that is tracked, where it is not the module's own -/
def scr (K : PySem.W.Frag) (a : Addr) (o : Obj) (xs : List V) : Hp := fun b => if b = a ∧ (K.lookup a).isNone = true then some (.frz o (.lst xs)) else none
theorem scr_some {K : PySem.W.Frag} {a b : Addr} {o : Obj} {xs : List V} {u : HO} (h : scr K a o xs b = some u) : b = a ∧ K.lookup a = none ∧ u = .frz o (.lst xs) := by
  unfold scr at h
  by_cases c : b = a ∧ (K.lookup a).isNone = true
  · rw [if_pos c] at h
    exact ⟨c.1, by simpa using c.2, (Option.some.inj h).symm⟩
  · rw [if_neg c] at h
    cases h
theorem scr_none {K : PySem.W.Frag} {a b : Addr} {o : Obj} {xs : List V} (h : b = a → K.lookup a ≠ none) : scr K a o xs b = none := by
  cases e : scr K a o xs b with
  | none => rfl
  | some u =>
    obtain ⟨h1, h2, _⟩ := scr_some e
    exact absurd h2 (h h1)

theorem law_callG {P : Program} {w : World} {K : PySem.W.Frag} {mg mb : Str → Option Value} {k : Nat} {f a : Addr} {fd : FuncData} {x : Str} {sp : Sp} {t : Shared} {vs : List Value} {ns : List Int}
    (inK : K.In t.heap) (gl : t.heap.Ns mainGlobals mg) (bl : t.heap.Ns builtinsNs mb) (bb : ∀ x : Str, x ≠ "__name__" → mb x = bootBuiltins x) (nl : t.heap.NoLimit) (ng : t.gens = #[])
    (at_ : t.heap.get? a = some { cls := .type "list", data := .seq vs.toArray }) (ia : IntsAre vs ns) (sz : ns.length ≤ sizeLine) (room : Room k callerA)
    (F : ∀ base : Heap, K.In base → base.Ns mainGlobals mg → FnG P w K mg base k f fd [x] sp) (bind : ∀ (s : Shared) (u : Value), BindsTo s fd ⟨[u], []⟩ [(x, u)])
    (hsp : ∀ H : Hp, SqL K H a (ns.map V.int) → sp [.ref a] H (fun v _ => v = .bl true) fun _ _ _ => False) :
    codeAny (model P w) callerA (.call (.ref f) ⟨[.ref a], []⟩) (fun r s' => r = .ok (.ret (.bool true)) ∧ OldK t.heap s'.heap ∧ s'.os = t.os ∧ AllBare s'.gens) t := by
  have rv : Vals (ns.map V.int) vs := vals_ints ia
  have zs : (ns.map V.int).length ≤ sizeLine := by rw [List.length_map]; exact sz
  let o : Obj := { cls := .type "list", data := .seq vs.toArray }
  let H : Hp := scr K a o (ns.map V.int)
  have onlyA : ∀ {b : Addr} {u : HO}, H b = some u → b = a ∧ K.lookup a = none ∧ u = .frz o (.lst (ns.map V.int)) := fun e => scr_some e
  have ok : HOk P w H t.heap := by
    intro b u e
    obtain ⟨e1, _, e2⟩ := onlyA e
    rw [e1, e2]
    exact ⟨at_, zs, vs, _, rv, at_⟩
  have sq : SqL K H a (ns.map V.int) := by
    cases q : K.lookup a with
    | none => exact .inl (.inr ⟨o, if_pos ⟨rfl, by rw [q]; rfl⟩⟩)
    | some o1 =>
      have e1 := inK a o1 q
      rw [at_] at e1
      cases e1
      exact .inr ⟨_, vs.toArray, _, q, rfl, rfl, rfl, by rw [List.size_toArray, ia.length]; exact sz, by simpa using rv⟩
  have kept : ∀ {b : Addr} {ob : Obj}, t.heap.get? b = some ob → H b = none → (hidT t.heap H).get? b = some ob := fun e n => hidT_get e n
  have nsB : ∀ {b : Addr} {m : Str → Option Value}, t.heap.Ns b m → (hidT t.heap H).Ns b m := by
    rintro b m ⟨ob, es, ep, e, d, r⟩
    refine ⟨ob, es, ep, kept e (scr_none fun z => ?_), d, r⟩
    subst z
    rw [at_] at e
    cases e
    cases d
  have kB : K.In (hidT t.heap H) := fun b ob e => kept (inK b ob e) (scr_none fun z => by
    subst z
    rw [show K.lookup b = some ob from e]
    exact fun z => nomatch z)
  obtain ⟨mc, l1, l2⟩ := nl
  have M : Mod K mg (hidT t.heap H) := ⟨kB, nsB gl, ⟨mb, nsB bl, bb⟩, ⟨mc, nsB l1, l2⟩⟩
  have e0 : Env0 P w K mg (hidT t.heap H) callerA [] t H :=
    ⟨rfl, M, fun b ob e => of_hidT e, Nat.le_of_eq (hidT_size _ _), trivial, fun b hb => absurd (show b ∈ ([] : List Addr) from hb) (by simp), ok, .of_eq ng⟩
  have run := (F _ kB (nsB gl)).go callerA [] t H ⟨[.ref a], []⟩ [.ref a] [.ref a] _ _ rfl room e0 (bind t (.ref a)) (.cons rfl .nil) (hsp H sq)
  refine codeAny_mono run ?_
  intro r s2 hr
  match r, hr with
  | .error _, hr => exact hr.elim
  | .ok .next, hr => exact hr.elim
  | .ok .brk, hr => exact hr.elim
  | .ok .cont, hr => exact hr.elim
  | .ok (.ret u), hr =>
    obtain ⟨v, H2, os, bare, un, ok2, ru, q⟩ := hr
    obtain rfl : v = V.bl true := q
    obtain rfl : u = Value.bool true := ru
    refine ⟨rfl, OldK.of_keep ?_, os, bare⟩
    intro b ob e
    cases c : H b with
    | none => exact un.keep b ob e c (by intro z; exact absurd (show b ∈ ([] : List Addr) from z) (by simp)) (by simp)
    | some u =>
      obtain ⟨e1, _, e2⟩ := onlyA c
      rw [e2] at c
      obtain ⟨g, _⟩ := ok2 b _ (un.frzs b o _ c)
      rw [e1] at e g
      rw [at_] at e
      cases e
      rw [e1]
      exact g
theorem walk_ofG {l : PySem.W.OpenLaw} {n k : Nat} {q : Program} {loose : List Str} {XP : (Str → Option Value) → Heap → Prop} {YP : World → Heap → Prop} {d : DefRec} {K : Params → PySem.W.Frag} {sp : PySem.W.Frag → Sp} {x : Str}
    (hn : l.most = some n) (small : n ≤ sizeLine) (nodf : d.params.defaults = []) (room : Room k callerA) (hY : ∀ (w : World) (h : Heap), YP w h → (K w.params).In h)
    (F : ∀ (w : World) (mg : Str → Option Value) (f : Addr) (h : Heap), (K w.params).In h → h.Ns mainGlobals mg → mg d.name = some (.ref f) →
      ∃ fd : FuncData, (∀ (s : Shared) (u : Value), BindsTo s fd ⟨[u], []⟩ [(x, u)]) ∧ ∀ base : Heap, (K w.params).In base → base.Ns mainGlobals mg → FnG l.prog w (K w.params) mg base k f fd [x] (sp (K w.params)))
    (hsp : ∀ (K : PySem.W.Frag) (H : Hp) (a : Addr) (ns : List Int), ns.length ≤ n → SqL K H a (ns.map V.int) → sp K [.ref a] H (fun v _ => v = .bl true) fun _ _ _ => False) :
    PySem.W.WalkO q loose XP YP l.row.toRowW d [] (fun f vs => PySem.call f vs) := by
  refine Att.attach_call hn nodf ?_
  intro w s₀ t mg mb f o pm cd doc a vs ns G Y ho hd hcd hmg hobj hints hlen ng
  have inK : (K w.params).In t.heap := hY w _ Y
  obtain ⟨fd, bind, FG⟩ := F w mg f _ inK G.T.g hmg
  exact law_callG inK G.T.g G.T.b G.T.builtins G.T.nolimit ng hobj hints (Nat.le_trans hlen small) room FG bind fun H hS => hsp _ H a ns hlen hS
end DL
/-! More words over data: xs[i] op= e, extend, pop, several new lists at once, max, comparing rows. -/
namespace DL
open PySem PySem.Spec PyProof.Rows L2

/-! ### a list's item, by value -/
def rGetL (K : PySem.W.Frag) : V → V → Hp → VK → Prop := fun o i H Q => ∃ (p : Addr) (xs : List V) (n : Nat) (x : V), o = .ref p ∧ i = .int n ∧ SqL K H p xs ∧ xs[n]? = some x ∧ Q x H
theorem get_list {X : Cx} : PGet X (rGetL X.K) := by
  rintro pins s σ H o i ov iv Q I ro ri ⟨p, xs, n, x, rfl, rfl, hp, hx, q⟩
  obtain rfl : ov = .ref p := ro
  obtain ⟨t, rfl⟩ := ri
  obtain ⟨its, r, pl, hz⟩ := I.list hp
  obtain ⟨w, ew, rw'⟩ := r.get hx
  have hn : n < xs.length := (List.getElem?_eq_some_iff.mp hx).1
  have big := line63
  exact wpAny_getItem_list pl.isList (by omega) (by omega) (by simpa using ew) ⟨x, H, I, rw', q⟩
def ipM : TIp := fun x y H Q => ∃ i j : Int, x = .int i ∧ y = .int j ∧ CMulW i j ∧ Q (.int (i * j)) H
theorem ip_mul {X : Cx} : PIp X .Mult ipM := by
  rintro pins s σ H x y v u Q I r1 r2 ⟨i, j, rfl, rfl, c, q⟩
  obtain ⟨t, rfl⟩ := r1
  obtain ⟨t', rfl⟩ := r2
  exact PySem.P.imul_int ⟨.int _, H, I.tok _, ⟨_, rfl⟩, q⟩ c.ok

section
variable {K : PySem.W.Frag} {B : Bs} {G : List Hp} {L : List Addr} {Γ : List Sl} {H H' H2 : Hp} {σ : L2.St}
variable {te ta tb tc : TE} {tt tu : TT} {tr : TA} {k : PyData → Prop} {x y : PyData} {P P' : PD} {t u : TS}
theorem st_augM {i : Nat} {a : Int} (h0 : Γ[i]? = some (.d (.int a))) (h : EvP K B G L Γ te fun d => ∃ b, d = .int b ∧ CMulW a b ∧ P.nx L (Γ.set i (.d (.int (a * b))))) : StP K B G L Γ (tAug i te ipM) P := fun σ H D E M => by
  obtain ⟨v, e, dn⟩ := E.get h0
  refine ⟨v, e, h σ H _ E fun w d H1 g1 dn1 ⟨b, e1, c, hk⟩ => ?_⟩
  subst e1
  exact ⟨a, b, dn_int dn, dn_int dn1, c, M.nx _ _ _ _ hk (g1.env.put i (.int _))⟩
/-- xs[j] += e, xs an own list of numbers -/
theorem st_addOwn {i : Nat} {l : Addr} {xs : List PyData} (hi : Γ[i]? = some (.own l xs)) (h : EvP K B G L Γ tb fun n => ∃ (j : Nat) (a : Int), n = .int (j : Int) ∧ xs[j]? = some (.int a) ∧
      EvP K B G L Γ te fun d => ∃ b : Int, d = .int b ∧ P.nx L (Γ.set i (.own l (xs.set j (.int (a + b)))))) :
    StP K B G L Γ (tAugS (tVar i) tb te (rGetL K) (ipI fun a b => a + b) rSetL) P := fun σ H D E M => by
  obtain ⟨e, vs, hl, dn⟩ := E.getO hi
  refine ⟨_, e, h σ H _ E fun u n H1 g1 dn1 ⟨j, a, en, hj, h2⟩ => ?_⟩
  subst en
  obtain ⟨_, ws, hl1, dn2⟩ := g1.env.getO hi
  obtain ⟨w, ew, dw⟩ := dn2.get hj
  refine ⟨l, ws, j, w, rfl, dn_int dn1, .inl (.inl hl1), ew, h2 σ H1 _ g1.env fun v d H2 g2 dn3 ⟨b, ed, hk⟩ => ?_⟩
  subst ed
  obtain ⟨_, zs, hl2, dn4⟩ := g2.env.getO hi
  refine ⟨a, b, dn_int dw, dn_int dn3, l, zs, (j : Int), j, rfl, dn_int dn1, hl2, ?_, M.nx _ _ _ _ hk (Env.write g2.env hi (dn4.set j (.int _)))⟩
  have : j < xs.length := (List.getElem?_eq_some_iff.mp hj).1
  rw [dn4.length]
  unfold ixN
  rw [if_pos (by omega), if_pos (by omega)]
  simp
/-- xs.extend(ys) -/
theorem st_extend {i : Nat} {l : Addr} {xs : List PyData} (hi : Γ[i]? = some (.own l xs)) (h : EvP K B G L Γ te fun d => ∃ ys, d = .list ys ∧ xs.length + ys.length ≤ 1000000 ∧ P.nx L (Γ.set i (.own l (xs ++ ys)))) :
    StP K B G L Γ (tDrop (tBM K "list" rExtend (tVar i) (tCons te tNil))) P := fun σ H D E M => by
  obtain ⟨e, vs, hl, dn⟩ := E.getO hi
  refine ⟨_, e, .inl ⟨rfl, vs, .inl (.inl hl)⟩, h σ H _ E fun v d H1 g1 dn1 ⟨ys, ed, hz, hk⟩ => ?_⟩
  subst ed
  obtain ⟨e1, ws, hl1, dn2⟩ := g1.env.getO hi
  cases dn1 with
  | @lst b zs _ hb dz =>
    refine ⟨l, b, ws, zs, rfl, rfl, hl1, hid_sub _ _ _ _ hb, ?_, M.nx _ _ _ _ hk (Env.write g1.env hi (dn2.append dz))⟩
    rw [dn2.length, dz.length]
    exact sz_ok hz
/-- a, b = two new lists -/
theorem st_parOO {i j : Nat} (h : EvN K B G L Γ ta fun xs => ∀ l1 : Addr, EvN K B G (l1 :: L) Γ tb fun ys => ∀ l2 : Addr, l1 ≠ l2 → P.nx (l2 :: l1 :: L) ((Γ.set i (.own l1 xs)).set j (.own l2 ys))) : StP K B G L Γ (tPar i j (tCons ta (tCons tb tNil))) P := fun σ H D E M =>
  h σ H _ E fun p vs xs H1 g1 hp hv dv h2 => h2 p σ H1 _ (Env.temp E g1 hp hv) fun q ws ys H2 g2 hq hw dw hk => by
    have hpq : p ≠ q := ne_of_none hv hq
    have E1 := Env.take E g1 hp hv i dv
    have g3 := Go.step E1 g2.rl g2.env.ws
    have E2 := Env.take E1 g3 hq hw j dw
    exact ⟨_, _, rfl, M.nx _ _ _ _ (hk q hpq) E2⟩
/-- a, b, c = e, e, a new list -/
theorem st_par3O {i j m : Nat} (h : EvP K B G L Γ ta fun x => EvP K B G L Γ tb fun y => EvN K B G L Γ tc fun zs => ∀ l : Addr, P.nx (l :: L) (((Γ.set i (.d x)).set j (.d y)).set m (.own l zs))) : StP K B G L Γ (tPar3 i j m (tCons ta (tCons tb (tCons tc tNil)))) P := fun σ H D E M =>
  h σ H _ E fun v x H1 g1 dx h2 => h2 σ H1 _ g1.env fun w y H2 g2 dy h3 => h3 σ H2 _ g2.env fun p vs zs H3 g3 hp hv dv hk => by
    have E1 := (g2.env.put i (dx.mono g2.sm)).put j dy
    have g4 := Go.step E1 g3.rl g3.env.ws
    have E2 := Env.take E1 g4 hp hv m dv
    exact ⟨_, _, _, rfl, M.nx _ _ _ _ (hk p) E2⟩
theorem co_max {i j : Int} (hk : k (.int (if j > i then j else i))) : COk K B G L Γ rMax2Q [.int i, .int j] k := fun σ H Q vs E d1 q => by
  cases d1 with
  | cons h1 h2 =>
    cases h2 with
    | cons h2 h3 =>
      cases h3
      cases h1
      cases h2
      exact ⟨i, j, rfl, q _ _ H (Go.refl E) (.int _) hk⟩
/-- comparing rows of numbers and tuples of such -/
theorem rok_eqD {x y : PyData} (nx : x.hasDict = false) (ny : y.hasDict = false) (sx : SeqAt.shaped x = true) (sy : SeqAt.shaped y = true) (hk : k (.bool (PyData.eqv x y))) : ROk K B G L Γ (rEqD K) x y k := fun σ H Q v u E d1 d2 q =>
  ⟨x, y, Dn.dp (d1.mono (hid_sub _ _)) nx, Dn.dp (d2.mono (hid_sub _ _)) ny, sx, sy, q _ _ H (Go.refl E) (.bl _) hk⟩
theorem rok_neD {x y : PyData} (nx : x.hasDict = false) (ny : y.hasDict = false) (sx : SeqAt.shaped x = true) (sy : SeqAt.shaped y = true) (hk : k (.bool (!PyData.eqv x y))) : ROk K B G L Γ (rNeD K) x y k := fun σ H Q v u E d1 d2 q =>
  ⟨x, y, Dn.dp (d1.mono (hid_sub _ _)) nx, Dn.dp (d2.mono (hid_sub _ _)) ny, sx, sy, q _ _ H (Go.refl E) (.bl _) hk⟩
end
end DL
/-! Fractions, rows, the run of a line: what they are, apart from any program. -/
namespace Mx
open PySem

abbrev Fr := Int × Int
def frD (x : Fr) : PyData := .tuple [.int x.1, .int x.2]
def FOk (x : Fr) : Prop := 0 < x.2 ∧ Nat.gcd x.1.natAbs x.2.natAbs = 1
def val (x : Fr) : Rat := (x.1 : Rat) / (x.2 : Rat)

theorem ratInt_ne {a : Int} (h : a ≠ 0) : (a : Rat) ≠ 0 := fun z => h (Rat.intCast_inj.mp (z.trans (by rfl)))
theorem ratInt_pos {a : Int} (h : 0 < a) : (0 : Rat) < (a : Rat) := by
  have := Rat.intCast_lt_intCast.mpr h
  exact this
theorem val_eq {x : Fr} {n d : Int} (hx : 0 < x.2) (hd : 0 < d) : val x = (n : Rat) / (d : Rat) ↔ x.1 * d = n * x.2 := by
  have h1 : (x.2 : Rat) ≠ 0 := ratInt_ne (by omega)
  have h2 : (d : Rat) ≠ 0 := ratInt_ne (by omega)
  constructor
  · intro h
    have h3 : (x.1 : Rat) * d = n * x.2 := by
      unfold val at h
      grind
    have h4 : ((x.1 * d : Int) : Rat) = ((n * x.2 : Int) : Rat) := by
      rw [Rat.intCast_mul, Rat.intCast_mul]
      exact h3
    exact Rat.intCast_inj.mp h4
  · intro h
    have h4 : ((x.1 * d : Int) : Rat) = ((n * x.2 : Int) : Rat) := by rw [h]
    rw [Rat.intCast_mul, Rat.intCast_mul] at h4
    unfold val
    grind
/-- a reduced fraction that is u / S is no longer than these -/
theorem FOk.small {x : Fr} {u S : Int} (h : FOk x) (hS : 0 < S) (e : val x * (S : Rat) = (u : Rat)) : x.1.natAbs ≤ u.natAbs ∧ x.2.natAbs ≤ S.natAbs ∧ ∃ c : Int, 0 < c ∧ S = x.2 * c ∧ u = x.1 * c := by
  obtain ⟨h1, h2⟩ := h
  have hs : (S : Rat) ≠ 0 := ratInt_ne (by omega)
  have e2 : val x = (u : Rat) / (S : Rat) := by grind
  have e3 := (val_eq h1 hS).mp e2
  have d1 : x.2.natAbs ∣ S.natAbs := by
    have : x.2 ∣ x.1 * S := ⟨u, by rw [e3]; exact Int.mul_comm _ _⟩
    have h3 : x.2.natAbs ∣ x.1.natAbs * S.natAbs := by
      rw [← Int.natAbs_mul]
      exact Int.natAbs_dvd_natAbs.mpr this
    exact (Nat.Coprime.dvd_of_dvd_mul_left (show Nat.Coprime x.2.natAbs x.1.natAbs by
      unfold Nat.Coprime
      rw [Nat.gcd_comm]
      exact h2) h3)
  obtain ⟨c, hc⟩ := Int.natAbs_dvd_natAbs.mp d1
  have hc0 : 0 < c := by
    rcases Int.lt_trichotomy c 0 with q | q | q
    · have := Int.mul_neg_of_pos_of_neg h1 q
      omega
    · rw [q] at hc
      omega
    · exact q
  have e4 : u = x.1 * c := by
    rw [hc] at e3
    have : x.2 * (x.1 * c) = x.2 * u := by rw [Int.mul_comm x.2 u, ← e3]; grind
    exact (Int.eq_of_mul_eq_mul_left (by omega) this).symm
  refine ⟨?_, ?_, c, hc0, hc, e4⟩
  · rw [e4, Int.natAbs_mul]
    exact Nat.le_mul_of_pos_right _ (by omega)
  · rw [hc, Int.natAbs_mul]
    exact Nat.le_mul_of_pos_right _ (by omega)
theorem FOk.inj {x y : Fr} (hx : FOk x) (hy : FOk y) (e : val x = val y) : x = y := by
  have e1 := (val_eq (n := y.1) hx.1 hy.1).mp (by rw [e]; rfl)
  obtain ⟨_, h2, c, hc, e3, e4⟩ := hx.small (u := y.1) hy.1 (by
    rw [e]
    have := ratInt_ne (a := y.2) (by have := hy.1; omega)
    unfold val
    grind)
  obtain ⟨_, h5, _⟩ := hy.small (u := x.1) hx.1 (by
    rw [← e]
    have := ratInt_ne (a := x.2) (by have := hx.1; omega)
    unfold val
    grind)
  have h1 := hx.1
  have h3 := hy.1
  have : x.2 = y.2 := by omega
  rw [this] at e1
  have : x.1 = y.1 := Int.eq_of_mul_eq_mul_right (by omega) e1
  exact Prod.ext this (by assumption)

/-! ### rows of whole numbers -/
def gcdL : List Int → Nat
  | [] => 0
  | x :: xs => Nat.gcd x.natAbs (gcdL xs)
def prim (u : List Int) : List Int := u.map fun x => x / (gcdL u : Int)
theorem gcdL_dvd : ∀ {u : List Int} {x : Int}, x ∈ u → ((gcdL u : Nat) : Int) ∣ x
  | y :: ys, x, h => by
    rcases List.mem_cons.mp h with rfl | h
    · exact Int.ofNat_dvd_left.mpr (Nat.gcd_dvd_left _ _)
    · exact Int.dvd_trans (Int.ofNat_dvd.mpr (Nat.gcd_dvd_right _ _)) (gcdL_dvd h)
theorem gcdL_pos {u : List Int} (h : ∃ x ∈ u, x ≠ 0) : 0 < gcdL u := by
  obtain ⟨x, hx, hn⟩ := h
  rcases Nat.eq_zero_or_pos (gcdL u) with z | z
  · have := gcdL_dvd hx
    rw [z] at this
    exact absurd (Int.zero_dvd.mp this) hn
  · exact z
theorem gcdL_mul (a : Nat) : ∀ u : List Int, gcdL (u.map fun x => (a : Int) * x) = a * gcdL u
  | [] => by simp [gcdL]
  | x :: xs => by
    simp only [List.map_cons, gcdL]
    rw [gcdL_mul a xs, Int.natAbs_mul, Int.natAbs_natCast, Nat.gcd_mul_left]
theorem prim_mul {a : Nat} (h : 0 < a) (u : List Int) : prim (u.map fun x => (a : Int) * x) = prim u := by
  unfold prim
  rw [gcdL_mul, List.map_map]
  apply List.map_congr_left
  intro x _
  simp only [Function.comp]
  rw [Int.natCast_mul, Int.mul_ediv_mul_of_pos _ _ (by omega)]
/-- rows that are one another times numbers above 0 -/
theorem prim_eq {u v : List Int} {a b : Int} (ha : 0 < a) (hb : 0 < b) (hl : u.length = v.length) (h : ∀ k : Nat, a * u.getD k 0 = b * v.getD k 0) : prim u = prim v := by
  obtain ⟨m, rfl⟩ := Int.eq_ofNat_of_zero_le (Int.le_of_lt ha)
  obtain ⟨n, rfl⟩ := Int.eq_ofNat_of_zero_le (Int.le_of_lt hb)
  rw [← prim_mul (a := m) (by omega) u, ← prim_mul (a := n) (by omega) v]
  congr 1
  apply List.ext_getElem
  · simp [hl]
  · intro k h1 h2
    have h1' : k < u.length := by simpa using h1
    have h2' : k < v.length := by simpa using h2
    have := h k
    simp only [List.getElem_map]
    rw [List.getD_eq_getElem?_getD, List.getD_eq_getElem?_getD, List.getElem?_eq_getElem h1', List.getElem?_eq_getElem h2'] at this
    simpa using this
theorem prim_len (u : List Int) : (prim u).length = u.length := by simp [prim]
theorem prim_get (u : List Int) (k : Nat) : (prim u).getD k 0 = u.getD k 0 / (gcdL u : Int) := by
  unfold prim
  by_cases h : k < u.length
  · simp [List.getD_eq_getElem?_getD, h]
  · simp [List.getD_eq_getElem?_getD, h]
theorem mem_getD {u : List Int} {k : Nat} (h : u.getD k 0 ≠ 0) : u.getD k 0 ∈ u := by
  by_cases q : k < u.length
  · rw [List.getD_eq_getElem?_getD, List.getElem?_eq_getElem q]
    simp
  · exfalso
    apply h
    rw [List.getD_eq_getElem?_getD, List.getElem?_eq_none (by omega)]
    rfl
theorem prim_abs (u : List Int) (k : Nat) : ((prim u).getD k 0).natAbs ≤ (u.getD k 0).natAbs := by
  rw [prim_get]
  by_cases h : u.getD k 0 = 0
  · rw [h]; simp
  · have hm := mem_getD h
    have hp := gcdL_pos ⟨_, hm, h⟩
    rw [Int.natAbs_ediv_of_dvd (gcdL_dvd hm)]
    exact Nat.div_le_self _ _

/-! ### trimming -/
def trim (u : List Int) : List Int := (u.reverse.dropWhile (· == 0)).reverse
theorem trim_id {u : List Int} (h : u.getLast? ≠ some 0) : trim u = u := by
  unfold trim
  cases e : u.reverse with
  | nil => simp [List.reverse_eq_nil_iff.mp e]
  | cons x xs =>
    have : u = (x :: xs).reverse := by rw [← e, List.reverse_reverse]
    have hx : x ≠ 0 := by
      intro z
      apply h
      rw [this, z]
      simp
    rw [List.dropWhile_cons]
    rw [if_neg (by simpa using hx)]
    exact this.symm

/-! ### the run -/
def sh (t : Nat → Rat) : Nat → Rat
  | 0 => 0
  | k + 1 => t k
/-- the torque behind shaft i and the angle of disc i, by powers of the pace -/
def run (J K : Nat → Rat) : Nat → (Nat → Rat) × (Nat → Rat)
  | 0 => (fun k => if k = 0 then K 0 else 0, fun k => if k = 0 then 1 else 0)
  | i + 1 => (fun k => (run J K i).1 k - J i * sh (run J K i).2 k, fun k => (run J K i).2 k + ((run J K i).1 k - J i * sh (run J K i).2 k) / K (i + 1))
def tq (J K : Nat → Rat) (i : Nat) : Nat → Rat := (run J K i).1
def tn (J K : Nat → Rat) (i : Nat) : Nat → Rat := (run J K i).2
theorem tq_succ (J K : Nat → Rat) (i k : Nat) : tq J K (i + 1) k = tq J K i k - J i * sh (tn J K i) k := rfl
theorem tn_succ (J K : Nat → Rat) (i k : Nat) : tn J K (i + 1) k = tn J K i k + tq J K (i + 1) k / K (i + 1) := rfl
/-- the end of a line of n + 1 discs -/
def en (J K : Nat → Rat) (n : Nat) : Nat → Rat := fun k => tq J K (n + 1) k + K (n + 1) * tn J K n k
/-- what is beyond the degree, the lead, and what stands at 0 -/
def alt (i : Nat) : Rat := if i % 2 = 0 then 1 else -1
theorem alt_succ (i : Nat) : alt (i + 1) = - alt i := by
  unfold alt
  rcases Nat.mod_two_eq_zero_or_one i with h | h
  · rw [if_neg (by omega), if_pos h]
  · rw [if_pos (by omega), if_neg (by omega)]
    rfl
theorem run_shape {J K : Nat → Rat} : ∀ i : Nat, (∀ j, j < i → 0 < J j) → (∀ j, 0 < j → j ≤ i → 0 < K j) →
    (∀ k, i < k → tq J K i k = 0 ∧ tn J K i k = 0) ∧ 0 < alt i * tn J K i i ∧ tq J K i 0 = K 0 ∧ (0 ≤ K 0 → 0 < tn J K i 0)
  | 0, _, _ => by
    refine ⟨fun k hk => ?_, ?_, rfl, fun _ => ?_⟩
    · unfold tq tn run
      simp [show ¬ k = 0 by omega]
    · show (0 : Rat) < 1 * 1
      decide +kernel
    · show (0 : Rat) < 1
      decide +kernel
  | i + 1, hJ, hK => by
    obtain ⟨h1, h2, h3, h4⟩ := run_shape i (fun j h => hJ j (by omega)) (fun j a b => hK j a (by omega))
    have hk := hK (i + 1) (by omega) (by omega)
    have hj := hJ i (by omega)
    have t1 : tq J K (i + 1) (i + 1) = - (J i * tn J K i i) := by
      rw [tq_succ, (h1 (i + 1) (by omega)).1]
      show 0 - J i * tn J K i i = _
      grind
    refine ⟨fun k h => ?_, ?_, ?_, fun h0 => ?_⟩
    · have a : tq J K (i + 1) k = 0 := by
        rw [tq_succ, (h1 k (by omega)).1]
        match k, h with
        | k + 1, h =>
          show 0 - J i * tn J K i k = 0
          rw [(h1 k (by omega)).2]
          grind
      refine ⟨a, ?_⟩
      rw [tn_succ, a, (h1 k (by omega)).2]
      grind
    · rw [tn_succ, t1, (h1 (i + 1) (by omega)).2, alt_succ]
      have : -alt i * (0 + -(J i * tn J K i i) / K (i + 1)) = J i * (alt i * tn J K i i) / K (i + 1) := by grind
      rw [this, Rat.div_def]
      exact Rat.mul_pos (Rat.mul_pos hj h2) (Rat.inv_pos.mpr hk)
    · rw [tq_succ, h3]
      show K 0 - J i * 0 = K 0
      grind
    · rw [tn_succ, tq_succ, h3]
      show 0 < tn J K i 0 + (K 0 - J i * 0) / K (i + 1)
      have h5 := h4 h0
      have h6 : 0 ≤ K 0 / K (i + 1) := by
        rw [Rat.div_def]
        exact Rat.mul_nonneg h0 (Rat.le_of_lt (Rat.inv_pos.mpr hk))
      grind
theorem tq_lead {J K : Nat → Rat} (i : Nat) (hJ : ∀ j, j < i + 1 → 0 < J j) (hK : ∀ j, 0 < j → j ≤ i → 0 < K j) : (∀ k, i + 1 < k → tq J K (i + 1) k = 0) ∧ 0 < alt (i + 1) * tq J K (i + 1) (i + 1) ∧ tq J K (i + 1) 0 = K 0 := by
  obtain ⟨h1, h2, h3, h4⟩ := run_shape i (fun j h => hJ j (by omega)) hK
  have hj := hJ i (by omega)
  refine ⟨fun k h => ?_, ?_, ?_⟩
  · rw [tq_succ, (h1 k (by omega)).1]
    match k, h with
    | k + 1, h =>
      show 0 - J i * tn J K i k = 0
      rw [(h1 k (by omega)).2]
      grind
  · rw [tq_succ, (h1 (i + 1) (by omega)).1, alt_succ]
    show 0 < -alt i * (0 - J i * tn J K i i)
    have : -alt i * (0 - J i * tn J K i i) = J i * (alt i * tn J K i i) := by grind
    rw [this]
    exact Rat.mul_pos hj h2
  · rw [tq_succ, h3]
    show K 0 - J i * 0 = K 0
    grind
theorem en_shape {J K : Nat → Rat} (n : Nat) (hJ : ∀ j, j < n + 1 → 0 < J j) (hK : ∀ j, 0 < j → j ≤ n → 0 < K j) (h0 : 0 ≤ K 0) (hn : 0 ≤ K (n + 1)) :
    (∀ k, n + 1 < k → en J K n k = 0) ∧ 0 < alt (n + 1) * en J K n (n + 1) ∧ (K 0 = 0 → K (n + 1) = 0 → en J K n 0 = 0) ∧ (0 < K 0 ∨ 0 < K (n + 1) → 0 < en J K n 0) := by
  obtain ⟨h1, h2, h3, h4⟩ := run_shape n (fun j h => hJ j (by omega)) hK
  obtain ⟨g1, g2, g3⟩ := tq_lead n hJ hK
  unfold en
  refine ⟨fun k h => ?_, ?_, fun a b => ?_, fun h => ?_⟩
  · rw [g1 k h, (h1 k (by omega)).2]
    grind
  · rw [(h1 (n + 1) (by omega)).2]
    have : alt (n + 1) * (tq J K (n + 1) (n + 1) + K (n + 1) * 0) = alt (n + 1) * tq J K (n + 1) (n + 1) := by grind
    rw [this]
    exact g2
  · rw [g3, a, b]
    grind
  · rw [g3]
    have h5 := h4 h0
    have h6 := Rat.mul_nonneg hn (Rat.le_of_lt h5)
    rcases h with h | h
    · grind
    · have := Rat.mul_pos h h5
      grind
end Mx
namespace Mx
open PySem

/-! ### rows that are a number times a polynomial -/
structure Rel (S : Int) (u : List Int) (f : Nat → Rat) : Prop where
  pos : 0 < S
  at_ : ∀ k, ((u.getD k 0 : Int) : Rat) = (S : Rat) * f k
def comb (a : Int) (u : List Int) (b : Int) (v : List Int) : List Int := (List.range (max u.length v.length)).map fun k => a * u.getD k 0 + b * v.getD k 0
theorem comb_len (a : Int) (u : List Int) (b : Int) (v : List Int) : (comb a u b v).length = max u.length v.length := by simp [comb]
theorem getD_out {u : List Int} {k : Nat} (h : u.length ≤ k) : u.getD k 0 = 0 := by
  rw [List.getD_eq_getElem?_getD, List.getElem?_eq_none h]
  rfl
theorem comb_get (a : Int) (u : List Int) (b : Int) (v : List Int) (k : Nat) : (comb a u b v).getD k 0 = a * u.getD k 0 + b * v.getD k 0 := by
  by_cases h : k < max u.length v.length
  · rw [List.getD_eq_getElem?_getD, List.getElem?_eq_getElem (by rw [comb_len]; exact h)]
    simp [comb]
  · rw [getD_out (by rw [comb_len]; omega), getD_out (u := u) (by omega), getD_out (u := v) (by omega)]
    omega
theorem last_ne {u : List Int} {n : Nat} (hl : u.length = n + 1) (h : u.getD n 0 ≠ 0) : u.getLast? ≠ some 0 := by
  rw [List.getLast?_eq_getElem?, hl]
  intro z
  apply h
  rw [List.getD_eq_getElem?_getD]
  rw [show n + 1 - 1 = n by omega] at z
  rw [z]
  rfl
theorem Rel.ne {S : Int} {u : List Int} {f : Nat → Rat} (r : Rel S u f) {k : Nat} (h : f k ≠ 0) : u.getD k 0 ≠ 0 := by
  intro z
  have := r.at_ k
  rw [z] at this
  have hs := ratInt_ne (a := S) (by have := r.pos; omega)
  have h0 : ((0 : Int) : Rat) = 0 := rfl
  rw [h0] at this
  grind
theorem ne_of_alt {i : Nat} {x : Rat} (h : 0 < alt i * x) : x ≠ 0 := by
  intro z
  rw [z] at h
  have : alt i * 0 = 0 := by grind
  rw [this] at h
  exact absurd h (by decide +kernel)

/-! ### a step of the run in whole numbers -/
structure LN (ds ss : List Fr) : Prop where
  c1 : 1 ≤ ds.length
  c8 : ds.length ≤ 8
  len : ss.length = ds.length + 1
  dok : ∀ x ∈ ds, FOk x ∧ 0 < x.1 ∧ x.1 < 18446744073709551616 ∧ x.2 < 18446744073709551616
  sok : ∀ x ∈ ss, FOk x ∧ 0 ≤ x.1 ∧ x.1 < 18446744073709551616 ∧ x.2 < 18446744073709551616
  inn : ∀ i x, 0 < i → i < ds.length → ss[i]? = some x → 0 < x.1
def jv (ds : List Fr) (i : Nat) : Rat := val (ds.getD i (0, 1))
theorem val_pos {x : Fr} (h2 : 0 < x.2) : (0 < val x ↔ 0 < x.1) ∧ (0 ≤ val x ↔ 0 ≤ x.1) ∧ (val x = 0 ↔ x.1 = 0) := by
  have h := ratInt_pos h2
  have hi := Rat.inv_pos.mpr h
  have e : val x = (x.1 : Rat) * (x.2 : Rat)⁻¹ := Rat.div_def _ _
  have e0 : val x = 0 ↔ x.1 = 0 := by
    constructor
    · intro z
      have : (x.1 : Rat) = 0 := by
        have hn := ratInt_ne (a := x.2) (by omega)
        unfold val at z
        grind
      exact Rat.intCast_inj.mp (this.trans rfl)
    · intro z
      rw [e, z]
      show (0 : Rat) * _ = 0
      grind
  have p1 : 0 < x.1 → 0 < val x := fun q => by
    rw [e]
    exact Rat.mul_pos (ratInt_pos q) hi
  have n1 : x.1 < 0 → val x < 0 := fun q => by
    have q2 : 0 < (-x.1 : Int) := by omega
    have q3 := Rat.mul_pos (ratInt_pos q2) hi
    rw [e]
    rw [Rat.intCast_neg] at q3
    grind
  refine ⟨⟨fun q => ?_, p1⟩, ⟨fun q => ?_, fun q => ?_⟩, e0⟩
  · rcases Int.lt_trichotomy x.1 0 with z | z | z
    · have := n1 z
      grind
    · rw [e0.mpr z] at q
      exact absurd q (by decide +kernel)
    · exact z
  · rcases Int.lt_trichotomy x.1 0 with z | z | z
    · have := n1 z
      grind
    · omega
    · omega
  · rcases Int.lt_trichotomy x.1 0 with z | z | z
    · omega
    · rw [e0.mpr z]
      decide +kernel
    · exact Rat.le_of_lt (p1 z)
section
variable {ds ss : List Fr} (h : LN ds ss)
include h
theorem LN.d_get {i : Nat} (hi : i < ds.length) : ∃ x, ds[i]? = some x ∧ ds.getD i (0, 1) = x ∧ FOk x ∧ 0 < x.1 ∧ x.1 < 18446744073709551616 ∧ x.2 < 18446744073709551616 := by
  refine ⟨ds[i], List.getElem?_eq_getElem hi, ?_, h.dok _ (List.getElem_mem hi)⟩
  rw [List.getD_eq_getElem?_getD, List.getElem?_eq_getElem hi]
  rfl
theorem LN.s_get {i : Nat} (hi : i < ss.length) : ∃ x, ss[i]? = some x ∧ ss.getD i (0, 1) = x ∧ FOk x ∧ 0 ≤ x.1 ∧ x.1 < 18446744073709551616 ∧ x.2 < 18446744073709551616 ∧ (0 < i → i < ds.length → 0 < x.1) := by
  obtain ⟨a, b, c, d⟩ := h.sok _ (List.getElem_mem hi)
  refine ⟨ss[i], List.getElem?_eq_getElem hi, ?_, a, b, c, d, fun p q => h.inn i _ p q (List.getElem?_eq_getElem hi)⟩
  rw [List.getD_eq_getElem?_getD, List.getElem?_eq_getElem hi]
  rfl
theorem LN.jpos {i : Nat} (hi : i < ds.length) : 0 < jv ds i := by
  obtain ⟨x, _, e, a, b, _⟩ := h.d_get hi
  unfold jv
  rw [e]
  exact (val_pos a.1).1.mpr b
theorem LN.kpos {i : Nat} (h0 : 0 < i) (hi : i < ds.length) : 0 < jv ss i := by
  obtain ⟨x, _, e, a, b, _, _, q⟩ := h.s_get (i := i) (by rw [h.len]; omega)
  unfold jv
  rw [e]
  exact (val_pos a.1).1.mpr (q h0 hi)
theorem LN.knn {i : Nat} (hi : i < ss.length) : 0 ≤ jv ss i := by
  obtain ⟨x, _, e, a, b, _⟩ := h.s_get hi
  unfold jv
  rw [e]
  exact (val_pos a.1).2.1.mpr b
end

abbrev bd (u : List Int) (e : Nat) : Prop := ∀ x ∈ u, x.natAbs < 2 ^ e
theorem bd.get {u : List Int} {e : Nat} (h : bd u e) (k : Nat) : (u.getD k 0).natAbs < 2 ^ e := by
  by_cases q : u.getD k 0 = 0
  · rw [q]
    exact Nat.pow_pos (by decide)
  · exact h _ (mem_getD q)
theorem bd.of_get {u : List Int} {e : Nat} (h : ∀ k, (u.getD k 0).natAbs < 2 ^ e) : bd u e := fun x hx => by
  obtain ⟨k, hk, e1⟩ := List.getElem_of_mem hx
  have := h k
  rw [List.getD_eq_getElem?_getD, List.getElem?_eq_getElem hk] at this
  rw [← e1]
  simpa using this
theorem natAbs_mul_lt {a b : Int} {m n : Nat} (ha : a.natAbs < 2 ^ m) (hb : b.natAbs < 2 ^ n) : (a * b).natAbs < 2 ^ (m + n) := by
  rw [Int.natAbs_mul, Nat.pow_add]
  rcases Nat.eq_zero_or_pos a.natAbs with z | z
  · rw [z, Nat.zero_mul]
    exact Nat.mul_pos (Nat.pow_pos (by decide)) (Nat.pow_pos (by decide))
  · exact Nat.lt_of_lt_of_le (Nat.mul_lt_mul_of_pos_left hb z) (Nat.mul_le_mul_right _ (Nat.le_of_lt ha))
theorem natAbs_add_lt {a b : Int} {m : Nat} (ha : a.natAbs < 2 ^ m) (hb : b.natAbs < 2 ^ m) : (a + b).natAbs < 2 ^ (m + 1) := by
  have := Int.natAbs_add_le a b
  rw [Nat.pow_succ]
  omega
theorem pow_up {a m n : Nat} (h : a < 2 ^ m) (hn : m ≤ n) : a < 2 ^ n := Nat.lt_of_lt_of_le h (Nat.pow_le_pow_right (by decide) hn)
theorem comb_bd {a b : Int} {u v : List Int} {m n : Nat} {e f : Nat} (ha : a.natAbs < 2 ^ m) (hb : b.natAbs < 2 ^ n) (hu : bd u e) (hv : bd v f) {g : Nat} (h1 : m + e ≤ g) (h2 : n + f ≤ g) : bd (comb a u b v) (g + 1) := by
  apply bd.of_get
  intro k
  rw [comb_get]
  exact natAbs_add_lt (pow_up (natAbs_mul_lt ha (hu.get k)) h1) (pow_up (natAbs_mul_lt hb (hv.get k)) h2)
theorem shift_get (u : List Int) (f : Nat → Rat) (S : Rat) (h : ∀ k, ((u.getD k 0 : Int) : Rat) = S * f k) (k : Nat) : ((((0 : Int) :: u).getD k 0 : Int) : Rat) = S * sh f k := by
  cases k with
  | zero =>
    show ((0 : Int) : Rat) = S * 0
    have : ((0 : Int) : Rat) = 0 := rfl
    grind
  | succ k =>
    rw [List.getD_cons_succ]
    exact h k

/-- the state ahead of disc i -/
structure Sta (ds ss : List Fr) (i : Nat) (S : Int) (turn torque : List Int) : Prop where
  tu : Rel S turn (tn (jv ds) (jv ss) i)
  to : Rel S torque (tq (jv ds) (jv ss) i)
  tl : turn.length = i + 1
  ol : torque.length ≤ i + 1
  bS : S.natAbs < 2 ^ (64 + 130 * i)
  bt : bd turn (64 + 130 * i)
  bo : bd torque (64 + 130 * i)
theorem step1 {ds ss : List Fr} {i : Nat} {S : Int} {turn torque : List Int} (h : LN ds ss) (hi : i < ds.length) (st : Sta ds ss i S turn torque) {J : Fr} (hJ : ds[i]? = some J) :
    ∃ to', trim (comb J.2 torque (-J.1) (0 :: turn)) = to' ∧ Rel (S * J.2) to' (tq (jv ds) (jv ss) (i + 1)) ∧ to'.length = i + 2 ∧ bd to' (64 + 130 * i + 65) := by
  obtain ⟨J', e1, e2, a, b, c, d⟩ := h.d_get hi
  rw [hJ] at e1
  cases e1
  have hl : (comb J.2 torque (-J.1) (0 :: turn)).length = i + 2 := by
    rw [comb_len, List.length_cons, st.tl]
    have := st.ol
    omega
  have hr : Rel (S * J.2) (comb J.2 torque (-J.1) (0 :: turn)) (tq (jv ds) (jv ss) (i + 1)) := by
    refine ⟨Int.mul_pos st.to.pos a.1, fun k => ?_⟩
    rw [comb_get, tq_succ, Rat.intCast_add, Rat.intCast_mul, Rat.intCast_mul, Rat.intCast_mul, st.to.at_ k, shift_get turn _ _ st.tu.at_ k, Rat.intCast_neg]
    have hj : jv ds i = (J.1 : Rat) / (J.2 : Rat) := by
      unfold jv
      rw [e2]
      rfl
    have hn := ratInt_ne (a := J.2) (by have := a.1; omega)
    rw [hj]
    grind
  have hld := (tq_lead (J := jv ds) (K := jv ss) i (fun j hj => h.jpos (by omega)) (fun j p q => h.kpos p (by omega))).2.1
  have hid : trim (comb J.2 torque (-J.1) (0 :: turn)) = comb J.2 torque (-J.1) (0 :: turn) := trim_id (last_ne hl (hr.ne (ne_of_alt hld)))
  refine ⟨_, hid, hr, hl, ?_⟩
  have p1 : J.2.natAbs < 2 ^ 64 := by have := a.1; omega
  have p2 : (-J.1).natAbs < 2 ^ 64 := by omega
  refine comb_bd p1 p2 st.bo (f := 64 + 130 * i) (fun x hx => ?_) (by omega) (by omega)
  rcases List.mem_cons.mp hx with rfl | hx
  · exact Nat.pow_pos (by decide)
  · exact st.bt x hx
theorem step2 {ds ss : List Fr} {i : Nat} {S : Int} {turn torque to' : List Int} (h : LN ds ss) (hi : i + 1 < ds.length) (st : Sta ds ss i S turn torque) {J C : Fr} (hJ : ds[i]? = some J) (hC : ss[i + 1]? = some C)
    (hr : Rel (S * J.2) to' (tq (jv ds) (jv ss) (i + 1))) (hl : to'.length = i + 2) (hb : bd to' (64 + 130 * i + 65)) :
    Sta ds ss (i + 1) (S * (J.2 * C.1)) (trim (comb (J.2 * C.1) turn C.2 to')) (trim (comb C.1 to' 0 [])) := by
  obtain ⟨J', e1, e2, a, b, c, d⟩ := h.d_get (i := i) (by omega)
  rw [hJ] at e1
  cases e1
  obtain ⟨C', g1, g2, a', b', c', d', q'⟩ := h.s_get (i := i + 1) (by rw [h.len]; omega)
  rw [hC] at g1
  cases g1
  have hC0 := q' (by omega) hi
  have hk : jv ss (i + 1) = (C.1 : Rat) / (C.2 : Rat) := by
    unfold jv
    rw [g2]
    rfl
  have n1 := ratInt_ne (a := J.2) (by have := a.1; omega)
  have n2 := ratInt_ne (a := C.1) (by omega)
  have n3 := ratInt_ne (a := C.2) (by have := a'.1; omega)
  have hS : 0 < S * (J.2 * C.1) := Int.mul_pos st.tu.pos (Int.mul_pos a.1 hC0)
  have sh1 := run_shape (J := jv ds) (K := jv ss) (i + 1) (fun j hj => h.jpos (by omega)) (fun j p q => h.kpos p (by omega))
  have ld := (tq_lead (J := jv ds) (K := jv ss) i (fun j hj => h.jpos (by omega)) (fun j p q => h.kpos p (by omega))).2.1
  have l1 : (comb (J.2 * C.1) turn C.2 to').length = i + 2 := by
    rw [comb_len, st.tl, hl]
    omega
  have r1 : Rel (S * (J.2 * C.1)) (comb (J.2 * C.1) turn C.2 to') (tn (jv ds) (jv ss) (i + 1)) := by
    refine ⟨hS, fun k => ?_⟩
    rw [comb_get, tn_succ, Rat.intCast_add, Rat.intCast_mul, Rat.intCast_mul, Rat.intCast_mul, Rat.intCast_mul, Rat.intCast_mul, st.tu.at_ k, hr.at_ k, hk, Rat.intCast_mul]
    grind
  have l2 : (comb C.1 to' 0 []).length = i + 2 := by
    rw [comb_len, hl]
    simp
  have r2 : Rel (S * (J.2 * C.1)) (comb C.1 to' 0 []) (tq (jv ds) (jv ss) (i + 1)) := by
    refine ⟨hS, fun k => ?_⟩
    rw [comb_get, Int.zero_mul, Int.add_zero, Rat.intCast_mul, hr.at_ k, Rat.intCast_mul, Rat.intCast_mul, Rat.intCast_mul]
    grind
  rw [trim_id (last_ne l1 (r1.ne (ne_of_alt sh1.2.1))), trim_id (last_ne l2 (r2.ne (ne_of_alt ld)))]
  have p1 : J.2.natAbs < 2 ^ 64 := by have := a.1; omega
  have p2 : C.1.natAbs < 2 ^ 64 := by omega
  have p3 : C.2.natAbs < 2 ^ 64 := by have := a'.1; omega
  have p12 : (J.2 * C.1).natAbs < 2 ^ (64 + 64) := natAbs_mul_lt p1 p2
  have b1 : bd (comb (J.2 * C.1) turn C.2 to') (64 + 130 * i + 129 + 1) := comb_bd p12 p3 st.bt hb (by omega) (by omega)
  have b2 : bd (comb C.1 to' 0 []) (64 + 130 * i + 129 + 1) := comb_bd (n := 0) (f := 0) p2 (by decide) hb (fun x hx => by simp at hx) (by omega) (by omega)
  refine ⟨r1, r2, l1, by omega, ?_, ?_, ?_⟩
  · exact pow_up (natAbs_mul_lt st.bS p12) (by omega)
  · rw [show 64 + 130 * (i + 1) = 64 + 130 * i + 129 + 1 by omega]
    exact b1
  · rw [show 64 + 130 * (i + 1) = 64 + 130 * i + 129 + 1 by omega]
    exact b2
theorem stepE {ds ss : List Fr} {i : Nat} {S : Int} {turn torque to' : List Int} (h : LN ds ss) (hi : i + 1 = ds.length) (st : Sta ds ss i S turn torque) {J C : Fr} (hJ : ds[i]? = some J) (hC : ss[i + 1]? = some C)
    (hr : Rel (S * J.2) to' (tq (jv ds) (jv ss) (i + 1))) (hl : to'.length = i + 2) (hb : bd to' (64 + 130 * i + 65)) :
    Rel (S * (J.2 * C.2)) (trim (comb (J.2 * C.1) turn C.2 to')) (en (jv ds) (jv ss) i) ∧ (trim (comb (J.2 * C.1) turn C.2 to')).length = i + 2 ∧ bd (trim (comb (J.2 * C.1) turn C.2 to')) (64 + 130 * (i + 1)) := by
  obtain ⟨J', e1, e2, a, b, c, d⟩ := h.d_get (i := i) (by omega)
  rw [hJ] at e1
  cases e1
  obtain ⟨C', g1, g2, a', b', c', d', q'⟩ := h.s_get (i := i + 1) (by rw [h.len]; omega)
  rw [hC] at g1
  cases g1
  have hk : jv ss (i + 1) = (C.1 : Rat) / (C.2 : Rat) := by
    unfold jv
    rw [g2]
    rfl
  have n1 := ratInt_ne (a := J.2) (by have := a.1; omega)
  have n3 := ratInt_ne (a := C.2) (by have := a'.1; omega)
  have hS : 0 < S * (J.2 * C.2) := Int.mul_pos st.tu.pos (Int.mul_pos a.1 a'.1)
  have shp := en_shape (J := jv ds) (K := jv ss) i (fun j hj => h.jpos (by omega)) (fun j p q => h.kpos p (by omega)) (h.knn (by rw [h.len]; omega)) (h.knn (by rw [h.len]; omega))
  have l1 : (comb (J.2 * C.1) turn C.2 to').length = i + 2 := by
    rw [comb_len, st.tl, hl]
    omega
  have r1 : Rel (S * (J.2 * C.2)) (comb (J.2 * C.1) turn C.2 to') (en (jv ds) (jv ss) i) := by
    refine ⟨hS, fun k => ?_⟩
    unfold en
    rw [comb_get, Rat.intCast_add, Rat.intCast_mul, Rat.intCast_mul, Rat.intCast_mul, Rat.intCast_mul, Rat.intCast_mul, st.tu.at_ k, hr.at_ k, hk, Rat.intCast_mul]
    grind
  rw [trim_id (last_ne l1 (r1.ne (ne_of_alt shp.2.1)))]
  have p1 : J.2.natAbs < 2 ^ 64 := by have := a.1; omega
  have p2 : C.1.natAbs < 2 ^ 64 := by omega
  have p3 : C.2.natAbs < 2 ^ 64 := by have := a'.1; omega
  refine ⟨r1, l1, ?_⟩
  rw [show 64 + 130 * (i + 1) = 64 + 130 * i + 129 + 1 by omega]
  exact comb_bd (natAbs_mul_lt p1 p2) p3 st.bt hb (by omega) (by omega)
theorem sta0 {ds ss : List Fr} (h : LN ds ss) {C : Fr} (hC : ss[0]? = some C) : Sta ds ss 0 C.2 [C.2] (if C.1 = 0 then [] else [C.1]) := by
  obtain ⟨C', g1, g2, a, b, c, d, q⟩ := h.s_get (i := 0) (by rw [h.len]; omega)
  rw [hC] at g1
  cases g1
  have hk : jv ss 0 = (C.1 : Rat) / (C.2 : Rat) := by
    unfold jv
    rw [g2]
    rfl
  have n := ratInt_ne (a := C.2) (by have := a.1; omega)
  have z0 : ((0 : Int) : Rat) = 0 := rfl
  have p2 : C.1.natAbs < 2 ^ 64 := by omega
  have p3 : C.2.natAbs < 2 ^ 64 := by have := a.1; omega
  refine ⟨⟨a.1, fun k => ?_⟩, ⟨a.1, fun k => ?_⟩, rfl, by split <;> simp, p3, ?_, ?_⟩
  · cases k with
    | zero =>
      show ((C.2 : Int) : Rat) = C.2 * 1
      grind
    | succ k =>
      show ((0 : Int) : Rat) = C.2 * 0
      grind
  · cases k with
    | zero =>
      show (((if C.1 = 0 then [] else [C.1]).getD 0 0 : Int) : Rat) = C.2 * jv ss 0
      rw [hk]
      by_cases z : C.1 = 0
      · rw [if_pos z, z]
        show ((0 : Int) : Rat) = C.2 * (((0 : Int) : Rat) / C.2)
        grind
      · rw [if_neg z]
        show ((C.1 : Int) : Rat) = C.2 * ((C.1 : Rat) / C.2)
        grind
    | succ k =>
      show (((if C.1 = 0 then [] else [C.1]).getD (k + 1) 0 : Int) : Rat) = C.2 * 0
      by_cases z : C.1 = 0
      · rw [if_pos z]
        show ((0 : Int) : Rat) = _
        grind
      · rw [if_neg z]
        show ((0 : Int) : Rat) = _
        grind
  · intro x hx
    rw [List.mem_singleton.mp hx]
    exact p3
  · intro x hx
    by_cases z : C.1 = 0
    · rw [if_pos z] at hx
      simp at hx
    · rw [if_neg z] at hx
      rw [List.mem_singleton.mp hx]
      exact p2
end Mx
/-! a tuple times 1 is itself -/
namespace DL
open PySem PySem.Spec PyProof.Rows L2
section
variable {K : PySem.W.Frag} {B : Bs} {G : List Hp} {L : List Addr} {Γ : List Sl} {k : PyData → Prop}
/-- a list times a count that may be below 0 -/
theorem ro_repN {ds : List PyData} {n : Int} (h0 : -100000 ≤ n) (h1 : n ≤ 100000) (hl : ds.length * n.toNat ≤ 1000000) (hk : k (.list (List.replicate n.toNat ds).flatten)) : ROk K B G L Γ (rMulA K) (.list ds) (.int n) k := by
  refine ROk.r (ROk.r (ROk.l ?_))
  rintro σ H Q v u E d1 d2 q
  cases d2
  cases d1 with
  | @lst a xs _ e1 h2 =>
    refine ⟨a, n, xs, rfl, rfl, hid_sub _ _ _ _ e1, by omega, by omega, ?_, fun p hp => ?_⟩
    · rw [h2.length]
      exact sz_ok hl
    · have g := Go.new (o := .lst (List.replicate n.toNat xs).flatten) E hp
      exact q _ _ _ g (.lst (hid_new (E.newM hp)) ((DnA.reps h2 n.toNat).mono g.sm)) hk
end
end DL
namespace Mx
open PySem DL L2
section
variable {K : PySem.W.Frag} {B : Bs} {G : List Hp} {L : List Addr} {Γ : List Sl} {k : PyData → Prop}
theorem ixf0 {x : Fr} (hk : k (.int x.1)) : ROk K B G L Γ (rIx K) (frD x) (.int 0) k := rok_ixsT (d := .int x.1) rfl hk
theorem ixf1 {x : Fr} (hk : k (.int x.2)) : ROk K B G L Γ (rIx K) (frD x) (.int 1) k := rok_ixsT (d := .int x.2) rfl hk
end

section
variable {K : PySem.W.Frag} {B : Bs} {G : List Hp} {L : List Addr} {Γ : List Sl} {ta tb : TE}
/-- xs * n as a new list -/
theorem en_rep {kl : List PyData → Prop} (h : EvP K B G L Γ ta fun x => EvP K B G L Γ tb fun y => ∃ (ds : List PyData) (n : Int), x = .list ds ∧ y = .int n ∧ -100000 ≤ n ∧ n ≤ 100000 ∧ ds.length * n.toNat ≤ 1000000 ∧ kl (List.replicate n.toNat ds).flatten) :
    EvN K B G L Γ (tOp (rMulA K) ta tb) kl := fun σ H Q E q =>
  h σ H _ E fun v x H1 g1 dx h2 => h2 σ H1 _ g1.env fun u y H2 g2 dy ⟨ds, n, ex, ey, h0, h1, hl, hk⟩ => by
    subst ex
    subst ey
    cases dy
    have dx2 := dx.mono g2.sm
    cases dx2 with
    | @lst a xs _ e1 h3 =>
      refine .inr (.inr (.inl ⟨a, n, xs, rfl, rfl, hid_sub _ _ _ _ e1, by omega, by omega, ?_, fun p hp => ?_⟩))
      · rw [h3.length]
        exact sz_ok hl
      · have g3 := Go.new (o := .lst (List.replicate n.toNat xs).flatten) g2.env hp
        have g12 := g1.trans g2
        exact q p _ _ _ (g12.trans g3) (Go.fresh E g12 hp) upd_same ((DnA.reps h3 n.toNat).mono (hid_keep hp (same_upd hp))) hk
theorem en_lcR {j : Nat} {vs : List Nat} {tr : TA} {tt : TT} {te : TE} {kl : List PyData → Prop} (hw : ∀ (σ : L2.St) x, L2.wipe ((L2.wipe σ vs).set j (some x)) vs = L2.wipe σ vs)
    (h : EvA K B G L Γ tr fun es => ∃ n : Int, es = [.int n] ∧ -100000 ≤ n ∧ n ≤ 100000 ∧ ∃ J, CompOk K B G L Γ j tt te vs n.toNat (fun i d' => d' = .int (i : Int)) J ∧ ∀ acc, J n.toNat acc → kl acc) :
    EvN K B G L Γ (tLc (iRng1 tr) (gName j) tt te vs) kl := fun σ H Q E q =>
  h σ H _ E fun v es H1 g1 dn ⟨n, e, h0, h1, J, C, hk⟩ => by
    subst e
    cases dn with
    | cons d1 d2 =>
      cases d2
      cases d1
      refine ⟨n, rfl, by omega, by omega, fun D hD => lc_range (lo := 0) (n := n.toNat) (fun i H' => Sofar K B L H1 H' D i J)
        ⟨fun a o w e => same_upd hD a o e, fun w hw => ?_, [], [], C.1, Nat.le_refl _, upd_same, .nil⟩ (fun i H' hi S => ?_) (fun H' S => ?_)⟩
      · obtain ⟨m, b, c, e, q⟩ := g1.env.ws w hw
        exact ⟨m, b, c, same_upd hD _ _ e, q⟩
      · have e0 : (0 : Int) + (i : Int) = (i : Int) := Int.zero_add _
        rw [e0]
        exact ⟨hw σ _, comp_turn g1.env hD C (by omega) S rfl hi (.int _)⟩
      · have g0 : Go K B G L Γ H1 H' σ := Go.of_rel g1.env S.rl S.ws
        obtain ⟨accV, acc, hJ, _, e, dA⟩ := S.it
        exact q D accV acc H' (g1.trans g0) (Go.fresh E g1 hD) e dA (hk acc hJ)
end
end Mx
/-! How many swings are slower than a pace: the changes of sign in the run at it. -/
namespace Mx
open PySem

/-! ### the row at a pace -/
/-- the angle of disc i and the torque ahead of it, at the pace p -/
def rowAt (J K : Nat → Rat) (p : Rat) : Nat → Rat × Rat
  | 0 => (1, K 0)
  | i + 1 => ((rowAt J K p i).1 + ((rowAt J K p i).2 - p * J i * (rowAt J K p i).1) / K (i + 1), (rowAt J K p i).2 - p * J i * (rowAt J K p i).1)
def xa (J K : Nat → Rat) (p : Rat) (i : Nat) : Rat := (rowAt J K p i).1
def ya (J K : Nat → Rat) (p : Rat) (i : Nat) : Rat := (rowAt J K p i).2
theorem ya_succ (J K : Nat → Rat) (p : Rat) (i : Nat) : ya J K p (i + 1) = ya J K p i - p * J i * xa J K p i := rfl
theorem xa_succ (J K : Nat → Rat) (p : Rat) (i : Nat) : xa J K p (i + 1) = xa J K p i + ya J K p (i + 1) / K (i + 1) := rfl
/-- the end of n + 1 discs -/
def ea (J K : Nat → Rat) (p : Rat) (n : Nat) : Rat := ya J K p (n + 1) + K (n + 1) * xa J K p n

/-- a polynomial's first n powers at p -/
def fev (f : Nat → Rat) (p : Rat) : Nat → Rat
  | 0 => 0
  | n + 1 => fev f p n + f n * p ^ n
theorem fev_congr {f g : Nat → Rat} {p : Rat} (h : ∀ k, f k = g k) : ∀ n, fev f p n = fev g p n
  | 0 => rfl
  | n + 1 => by
    unfold fev
    rw [fev_congr h n, h n]
theorem fev_lin {f g : Nat → Rat} {p a b : Rat} : ∀ n, fev (fun k => a * f k + b * g k) p n = a * fev f p n + b * fev g p n
  | 0 => by
    unfold fev
    grind
  | n + 1 => by
    unfold fev
    rw [fev_lin n]
    grind
theorem fev_sh {g : Nat → Rat} {p : Rat} : ∀ n, fev (sh g) p (n + 1) = p * fev g p n
  | 0 => by
    show fev (sh g) p 0 + sh g 0 * p ^ 0 = p * fev g p 0
    show 0 + 0 * p ^ 0 = p * 0
    grind
  | n + 1 => by
    show fev (sh g) p (n + 1) + sh g (n + 1) * p ^ (n + 1) = p * (fev g p n + g n * p ^ n)
    rw [fev_sh n]
    show p * fev g p n + g n * p ^ (n + 1) = _
    rw [Rat.pow_succ]
    grind
theorem fev_more {f : Nat → Rat} {p : Rat} {n : Nat} (h : ∀ k, n ≤ k → f k = 0) : ∀ m, fev f p (n + m) = fev f p n
  | 0 => rfl
  | m + 1 => by
    show fev f p (n + m) + f (n + m) * p ^ (n + m) = _
    rw [fev_more h m, h (n + m) (by omega)]
    grind
theorem fev_head {f : Nat → Rat} {p : Rat} : ∀ n, fev f p (n + 1) = f 0 + p * fev (fun k => f (k + 1)) p n
  | 0 => by
    show fev f p 0 + f 0 * p ^ 0 = f 0 + p * 0
    show 0 + f 0 * p ^ 0 = f 0 + p * 0
    rw [Rat.pow_zero]
    grind
  | n + 1 => by
    show fev f p (n + 1) + f (n + 1) * p ^ (n + 1) = f 0 + p * (fev (fun k => f (k + 1)) p n + f (n + 1) * p ^ n)
    rw [fev_head n, Rat.pow_succ]
    grind
/-- the run's polynomials at p are the row at p -/
theorem fev_run {J K : Nat → Rat} {p : Rat} : ∀ i : Nat, (∀ j, j < i → 0 < J j) → (∀ j, 0 < j → j ≤ i → 0 < K j) → fev (tn J K i) p (i + 1) = xa J K p i ∧ fev (tq J K i) p (i + 1) = ya J K p i
  | 0, _, _ => by
    constructor
    · show 0 + tn J K 0 0 * p ^ 0 = 1
      rw [Rat.pow_zero]
      show 0 + 1 * 1 = (1 : Rat)
      grind
    · show 0 + tq J K 0 0 * p ^ 0 = K 0
      rw [Rat.pow_zero]
      show 0 + K 0 * 1 = K 0
      grind
  | i + 1, hJ, hK => by
    obtain ⟨h1, h2⟩ := fev_run (p := p) i (fun j h => hJ j (by omega)) (fun j a b => hK j a (by omega))
    have sh0 := run_shape (J := J) (K := K) i (fun j h => hJ j (by omega)) (fun j a b => hK j a (by omega))
    have hk := hK (i + 1) (by omega) (by omega)
    have e1 : fev (tq J K (i + 1)) p (i + 1 + 1) = ya J K p (i + 1) := by
      have a : ∀ k, tq J K (i + 1) k = 1 * tq J K i k + (- J i) * sh (tn J K i) k := fun k => by
        rw [tq_succ]
        grind
      rw [fev_congr a, fev_lin, fev_sh, h1, fev_more (n := i + 1) (fun k hk => (sh0.1 k (by omega)).1) 1, h2, ya_succ]
      grind
    refine ⟨?_, e1⟩
    have a : ∀ k, tn J K (i + 1) k = 1 * tn J K i k + (1 / K (i + 1)) * tq J K (i + 1) k := fun k => by
      rw [tn_succ]
      grind
    rw [fev_congr a, fev_lin, e1, fev_more (n := i + 1) (fun k hk => (sh0.1 k (by omega)).2) 1, h1, xa_succ]
    grind
/-! ### a row of whole numbers at a fraction, scaled -/
def sgn (n : Int) : Int := if 0 < n then 1 else if n < 0 then -1 else 0
end Mx
namespace Mx
open PySem

/-! ### counting changes of sign -/
/-! ### the phase: how often the sign has changed, and where the row stands since -/
/-! ### the count never falls as the pace rises -/
def hp (x y : Rat) : Prop := 0 < x ∨ (x = 0 ∧ y < 0)
def le (s t : Nat × Rat × Rat) : Prop := s.1 < t.1 ∨ (s.1 = t.1 ∧ s.2.1 * t.2.2 - s.2.2 * t.2.1 ≤ 0)
/-! ### none at 0, all beyond a bound -/
end Mx
/-! An object that stands for a fraction: made once, read only. -/
namespace DL
open PySem PySem.Spec PyProof.Rows L2
end DL
namespace Mx
open PySem PySem.Spec PyProof.Rows L2 DL
structure PlaceAt (K : PySem.W.Frag) (H : Hp) (a : Addr) (p : Fr) : Prop where
  ex : ∃ (C dx : Addr) (fs : List (Str × V)) (vt vp : V), H a = some (.ins C dx fs) ∧ fs.lookup ("told" : Str) = some vt ∧ fs.lookup ("polynomial" : Str) = some vp ∧ Dn K H vt (frD p) ∧ Dn K H vp (.tuple []) ∧ Cls K C ∧ NoAttr K C "told" ∧ NoAttr K C "polynomial"
theorem PlaceAt.mono {K : PySem.W.Frag} {H H' : Hp} {a : Addr} {p : Fr} (h : PlaceAt K H a p) (s : Same H H') : PlaceAt K H' a p := by
  obtain ⟨C, dx, fs, vt, vp, e, l1, l2, d1, d2, r⟩ := h.ex
  exact ⟨C, dx, fs, vt, vp, s _ _ e, l1, l2, d1.mono s, d2.mono s, r⟩
section
variable {K : PySem.W.Frag} {B : Bs} {G : List Hp} {L : List Addr} {Γ : List Sl} {H H' H2 : Hp} {σ : L2.St} {te tp : TE} {k : PyData → Prop} {pre : PyData → Fr → Prop} {post : PyData → Fr → PyData → Prop} {t : TS}
theorem Go.ext (E : DL.Env K B G L H σ Γ) (s : Same H H') : Go K B G L Γ H H' σ := Go.step E (fun a o _ e => s a o e) fun w hw => by
  obtain ⟨n, b, c, e, q⟩ := E.ws w hw
  exact ⟨n, b, c, s _ _ e, q⟩
theorem Env.raw {i : Nat} {v : V} (E : DL.Env K B G L H σ Γ) (hi : Γ[i]? = some (.raw v)) : σ[i]? = some (some v) := by
  have q := E.sl i _ hi
  have q2 : σ[i]?.join = some v := q
  cases e : σ[i]? with
  | none => rw [e] at q2; cases q2
  | some x =>
    rw [e] at q2
    rw [show x = some v from q2]
end
end Mx
namespace Mx
open PySem
end Mx
/-! What the specs of defs share. -/
namespace Mx
open PySem PySem.Spec PyProof.Rows L2 DL
theorem atI_n {α : Type} (xs : List α) (n : Nat) : atI xs (n : Int) = xs[n]? := by
  unfold atI ixN
  by_cases h : n < xs.length
  · rw [if_pos (by omega), if_pos (by omega)]
    simp
  · rw [if_pos (by omega), if_neg (by omega), List.getElem?_eq_none (by omega)]
    rfl
theorem cutD_take (ds : List PyData) {m : Nat} (h : m ≤ ds.length) : DL.cutD ds none (some (m : Int)) = ds.take m := by
  unfold DL.cutD
  rw [HT.sIx_none, HT.sIx_nat, Nat.min_eq_left h]
  rfl
theorem trim_take {ns : List Int} {m : Nat} (hz : ∀ x ∈ ns.drop m, x = 0) (hl : 0 < m → ns.getD (m - 1) 0 ≠ 0) : trim ns = ns.take m := by
  have e1 : trim ns = trim (ns.take m) := by
    unfold trim
    have : ns.reverse = (ns.drop m).reverse ++ (ns.take m).reverse := by rw [← List.reverse_append, List.take_append_drop]
    rw [this, List.dropWhile_append_of_pos]
    intro x hx
    rw [hz x (List.mem_reverse.mp hx)]
    rfl
  rw [e1]
  apply trim_id
  intro z
  rcases Nat.eq_zero_or_pos m with h | h
  · subst h
    simp at z
  · rw [List.getLast?_eq_getElem?, List.length_take] at z
    have hm : m ≤ ns.length := by
      rcases Nat.lt_or_ge ns.length m with q | q
      · exfalso
        exact hl h (Mx.getD_out (by omega))
      · exact q
    rw [Nat.min_eq_left hm, List.getElem?_take_of_lt (by omega)] at z
    apply hl h
    rw [List.getD_eq_getElem?_getD, z]
    rfl
theorem map_getG {α β : Type} {f : α → β} {u : List α} {i : Nat} {d : β} (h : (u.map f)[i]? = some d) : ∃ x, u[i]? = some x ∧ d = f x := by
  rw [List.getElem?_map] at h
  cases e : u[i]? with
  | none => rw [e] at h; cases h
  | some x =>
    rw [e] at h
    exact ⟨x, rfl, (Option.some.inj h).symm⟩
theorem map_get {u : List Int} {i : Nat} {d : PyData} (h : (u.map PyData.int)[i]? = some d) : ∃ x, u[i]? = some x ∧ d = .int x := by
  rw [List.getElem?_map] at h
  cases e : u[i]? with
  | none => rw [e] at h; cases h
  | some x =>
    rw [e] at h
    exact ⟨x, rfl, (Option.some.inj h).symm⟩
theorem map_int_inj : ∀ {u v : List Int}, u.map PyData.int = v.map PyData.int → u = v
  | [], [], _ => rfl
  | [], _ :: _, h => by simp at h
  | _ :: _, [], h => by simp at h
  | x :: xs, y :: ys, h => by
    simp only [List.map_cons, List.cons.injEq, PyData.int.injEq] at h
    rw [h.1, map_int_inj h.2]
theorem lg {x : Int} {m : Nat} (h : x.natAbs < 2 ^ m) : x.natAbs.log2 ≤ m := by
  by_cases z : x.natAbs = 0
  · rw [z]
    exact Nat.zero_le _
  · exact Nat.le_of_lt ((Nat.log2_lt z).mpr h)
theorem mulW_of {x y : Int} {m n : Nat} (hx : x.natAbs < 2 ^ m) (hy : y.natAbs < 2 ^ n) (h : m + n < 1000000) : CMulW x y := by
  have a := lg hx
  have b := lg hy
  unfold CMulW
  omega
def sums (a : Int) (u : List Int) (b : Int) (v : List Int) (i : Nat) : List Int := (List.range (max u.length v.length)).map fun k => a * u.getD k 0 + if k < i then b * v.getD k 0 else 0
theorem sums_at (a : Int) (u : List Int) (b : Int) (v : List Int) (i k : Nat) (h : k < max u.length v.length) : (sums a u b v i)[k]? = some (a * u.getD k 0 + if k < i then b * v.getD k 0 else 0) := by
  unfold sums
  rw [List.getElem?_map, List.getElem?_range h]
  rfl
theorem sums_len (a : Int) (u : List Int) (b : Int) (v : List Int) (i : Nat) : (sums a u b v i).length = max u.length v.length := by simp [sums]
theorem sums_step {a : Int} {u : List Int} {b : Int} {v : List Int} {i : Nat} {y : Int} (hy : v[i]? = some y) : sums a u b v (i + 1) = (sums a u b v i).set i (a * u.getD i 0 + b * y) := by
  have hi : i < v.length := (List.getElem?_eq_some_iff.mp hy).1
  have hv : v.getD i 0 = y := by rw [List.getD_eq_getElem?_getD, hy]; rfl
  apply List.ext_getElem?
  intro k
  by_cases hk : k < max u.length v.length
  · rw [sums_at a u b v (i + 1) k hk]
    by_cases e : k = i
    · subst e
      rw [List.getElem?_set_self (by rw [sums_len]; omega), if_pos (by omega), hv]
    · rw [List.getElem?_set_ne (Ne.symm e), sums_at a u b v i k hk]
      by_cases q : k < i
      · rw [if_pos q, if_pos (by omega)]
      · rw [if_neg q, if_neg (by omega)]
  · rw [List.getElem?_eq_none (by rw [sums_len]; omega), List.getElem?_eq_none (by rw [List.length_set, sums_len]; omega)]
theorem sums_all (a : Int) (u : List Int) (b : Int) (v : List Int) : sums a u b v v.length = comb a u b v := by
  unfold sums comb
  apply List.map_congr_left
  intro k _
  by_cases q : k < v.length
  · rw [if_pos q]
  · rw [if_neg q, getD_out (u := v) (by omega)]
    omega
theorem sums_zero (a : Int) (u : List Int) (b : Int) (v : List Int) : sums a u b v 0 = (u.map fun x => a * x) ++ List.replicate (v.length - u.length) 0 := by
  apply List.ext_getElem?
  intro k
  by_cases hk : k < max u.length v.length
  · rw [sums_at a u b v 0 k hk, if_neg (by omega)]
    by_cases q : k < u.length
    · rw [List.getElem?_append_left (by simpa using q), List.getElem?_map, List.getElem?_eq_getElem q, List.getD_eq_getElem?_getD, List.getElem?_eq_getElem q]
      simp
    · rw [List.getElem?_append_right (by simpa using q), List.getElem?_replicate, if_pos (by simp; omega), getD_out (by omega)]
      simp
  · rw [List.getElem?_eq_none (by rw [sums_len]; omega), List.getElem?_eq_none (by simp; omega)]
theorem gcdL_append : ∀ u v : List Int, gcdL (u ++ v) = Nat.gcd (gcdL u) (gcdL v)
  | [], v => by simp [gcdL]
  | x :: xs, v => by
    simp only [List.cons_append, gcdL]
    rw [gcdL_append xs v, Nat.gcd_assoc]
def rowD (u : List Int) : PyData := .tuple (u.map .int)
def angD (p : List Int × Int) : PyData := .tuple [rowD p.1, .int p.2]
def lineD (ds ss : List Fr) : PyData := .tuple [.tuple (ds.map frD), .tuple (ss.map frD)]
structure PLists (dd ss : List Fr) (i : Nat) (as : List (List Int × Int)) (ts : List (List Int)) : Prop where
  la : as.length = i
  lt : ts.length = i
  pa : ∀ j p, as[j]? = some p → Rel p.2 p.1 (tn (jv dd) (jv ss) j) ∧ p.1.length = j + 1 ∧ bd p.1 (64 + 130 * j)
  pt : ∀ j t, ts[j]? = some t → (∃ S, Rel S t (tq (jv dd) (jv ss) (j + 1))) ∧ t.length = j + 2 ∧ bd t (64 + 130 * (j + 1))
  dv : ∀ (j j' : Nat) (p q : List Int × Int), j ≤ j' → as[j]? = some p → as[j']? = some q → p.2 ∣ q.2
def PInv (dd ss : List Fr) (i : Nat) (S : Int) (turn torque : List Int) (as : List (List Int × Int)) (ts : List (List Int)) : Prop :=
  (i < dd.length → Sta dd ss i S turn torque ∧ as.length = i ∧ ts.length = i ∧ PLists dd ss i as ts ∧ ∀ p ∈ as, p.2 ∣ S) ∧
  (i = dd.length → PLists dd ss i as ts ∧ (∃ S, Rel S turn (en (jv dd) (jv ss) (dd.length - 1))) ∧ turn.length = dd.length + 1 ∧ bd turn (64 + 130 * dd.length))
def Parts (dd ss : List Fr) (d : PyData) : Prop := ∃ (as : List (List Int × Int)) (ts : List (List Int)) (e : List Int), d = .tuple [.list (as.map angD), .list (ts.map rowD), rowD e] ∧ PLists dd ss dd.length as ts ∧
  (∃ S, Rel S e (en (jv dd) (jv ss) (dd.length - 1))) ∧ e.length = dd.length + 1 ∧ bd e (64 + 130 * dd.length)
theorem pinv0 {dd ss : List Fr} (h : LN dd ss) {C : Fr} (hC : ss[0]? = some C) : PInv dd ss 0 C.2 [C.2] (if C.1 = 0 then [] else [C.1]) [] [] := by
  have := h.c1
  exact ⟨fun _ => ⟨sta0 h hC, rfl, rfl, ⟨rfl, rfl, by simp, by simp, by simp⟩, by simp⟩, fun z => by omega⟩
theorem get_push {α : Type} {xs : List α} {x y : α} {j : Nat} (h : (xs ++ [x])[j]? = some y) : xs[j]? = some y ∨ (j = xs.length ∧ y = x) := by
  rcases Nat.lt_trichotomy j xs.length with q | q | q
  · rw [List.getElem?_append_left q] at h
    exact .inl h
  · subst q
    rw [List.getElem?_append_right (Nat.le_refl _)] at h
    simp at h
    exact .inr ⟨rfl, h.symm⟩
  · rw [List.getElem?_eq_none (by simp; omega)] at h
    cases h
theorem pinvS {dd ss : List Fr} (h : LN dd ss) {i : Nat} {S : Int} {turn torque : List Int} {as : List (List Int × Int)} {ts : List (List Int)} (I : PInv dd ss i S turn torque as ts) (hi : i < dd.length) {J C : Fr} (hJ : dd[i]? = some J) (hC : ss[i + 1]? = some C)
    {to' : List Int} (hr : Rel (S * J.2) to' (tq (jv dd) (jv ss) (i + 1))) (hl : to'.length = i + 2) (hb : bd to' (64 + 130 * i + 65)) :
    PInv dd ss (i + 1) (S * (J.2 * C.1)) (trim (comb (J.2 * C.1) turn C.2 to')) (trim (comb C.1 to' 0 [])) (as ++ [(turn, S)]) (ts ++ [to']) := by
  obtain ⟨st, la, lt, p, dv⟩ := I.1 hi
  have pl : PLists dd ss (i + 1) (as ++ [(turn, S)]) (ts ++ [to']) := by
    refine ⟨by simp [la], by simp [lt], fun j q hj => ?_, fun j t hj => ?_, fun j j' p1 q1 jj h1 h2 => ?_⟩
    · rcases get_push hj with hj | ⟨e1, e2⟩
      · exact p.pa j q hj
      · rw [e2, e1, la]
        exact ⟨st.tu, st.tl, st.bt⟩
    · rcases get_push hj with hj | ⟨e1, e2⟩
      · exact p.pt j t hj
      · rw [e2, e1, lt]
        exact ⟨⟨_, hr⟩, hl, fun x hx => pow_up (hb x hx) (by omega)⟩
    · rcases get_push h2 with h2 | ⟨e1, e2⟩
      · rcases get_push h1 with h1 | ⟨e3, e4⟩
        · exact p.dv j j' p1 q1 jj h1 h2
        · have := (List.getElem?_eq_some_iff.mp h2).1
          omega
      · rw [e2]
        rcases get_push h1 with h1 | ⟨e3, e4⟩
        · exact dv p1 (List.mem_of_getElem? h1)
        · rw [e4]
          exact Int.dvd_refl _
  have dv2 : ∀ (z : Int), ∀ q ∈ as ++ [(turn, S)], q.2 ∣ S * z := fun z q hq => by
    rcases List.mem_append.mp hq with hq | hq
    · exact Int.dvd_trans (dv q hq) (Int.dvd_mul_right _ _)
    · rw [List.mem_singleton.mp hq]
      exact Int.dvd_mul_right _ _
  refine ⟨fun q => ?_, fun q => ?_⟩
  · exact ⟨step2 h q st hJ hC hr hl hb, pl.la, pl.lt, pl, dv2 _⟩
  · obtain ⟨a, b, c⟩ := stepE h q st hJ hC hr hl hb
    have e : dd.length - 1 = i := by omega
    refine ⟨pl, ⟨_, by rw [e]; exact a⟩, by omega, by rw [← q]; exact c⟩
theorem pinvE {dd ss : List Fr} (h : LN dd ss) {S : Int} {turn torque : List Int} {as : List (List Int × Int)} {ts : List (List Int)} (I : PInv dd ss dd.length S turn torque as ts) : Parts dd ss (.tuple [.list (as.map angD), .list (ts.map rowD), rowD turn]) := by
  obtain ⟨a, b, c, d⟩ := I.2 rfl
  exact ⟨as, ts, turn, rfl, a, b, c, d⟩
theorem blend_inj {u u' v v' : List Int} {a a' b b' : Int} (h : [PyData.tuple (u.map .int), .int a, .tuple (v.map .int), .int b] = [PyData.tuple (u'.map .int), .int a', .tuple (v'.map .int), .int b']) : u = u' ∧ a = a' ∧ v = v' ∧ b = b' := by
  simp only [List.cons.injEq, PyData.tuple.injEq, PyData.int.injEq] at h
  exact ⟨map_int_inj h.1, h.2.1, map_int_inj h.2.2.1, h.2.2.2.1⟩
theorem frD_inj {x y : Fr} (h : frD x = frD y) : x = y := by
  obtain ⟨a, b⟩ := x
  obtain ⟨c, d⟩ := y
  unfold frD at h
  simp only [PyData.tuple.injEq, List.cons.injEq, PyData.int.injEq] at h
  rw [h.1, h.2.1]
theorem mapF_inj : ∀ {u v : List Fr}, u.map frD = v.map frD → u = v
  | [], [], _ => rfl
  | [], _ :: _, h => by simp at h
  | _ :: _, [], h => by simp at h
  | x :: xs, y :: ys, h => by
    simp only [List.map_cons, List.cons.injEq] at h
    rw [frD_inj h.1, mapF_inj h.2]
theorem lineD_inj {a b c d : List Fr} (h : [lineD a b] = [lineD c d]) : a = c ∧ b = d := by
  unfold lineD at h
  simp only [PyData.tuple.injEq, List.cons.injEq] at h
  exact ⟨mapF_inj h.1.1, mapF_inj h.1.2.1⟩
def pol (dd ss : List Fr) (i : Nat) : Nat → Rat := if i < dd.length then tn (jv dd) (jv ss) i else en (jv dd) (jv ss) (dd.length - 1)
structure Rows (dd ss : List Fr) (rows : List (List Int)) : Prop where
  len : rows.length = dd.length + 1
  row : ∀ i r, rows[i]? = some r → ∃ u S, r = prim u ∧ Rel S u (pol dd ss i) ∧ u.length = i + 1 ∧ bd u 1200
def Sm (x : Fr) : Prop := 0 < x.2 ∧ x.1.natAbs < 2 ^ 4000 ∧ x.2.natAbs < 2 ^ 4000
def frowD (r : List Fr) : PyData := .list (r.map frD)
structure RowOk (r : List Fr) (n : Nat) (f : Nat → Rat) : Prop where
  len : r.length = n
  ok : ∀ x ∈ r, FOk x
  at_ : ∀ k, val (r.getD k (0, 1)) = f k
structure PartOk (r : List Fr) (n : Nat) (f : Nat → Rat) : Prop where
  len : r.length = n
  ok : ∀ x ∈ r, FOk x
  at_ : ∀ k, k < n → val (r.getD k (0, 1)) = f k
theorem val_zero : val (0, 1) = 0 := by decide +kernel
theorem PartOk.push {r : List Fr} {n : Nat} {f : Nat → Rat} (h : PartOk r n f) {b : Fr} (hb : FOk b) (hv : val b = f n) : PartOk (r ++ [b]) (n + 1) f := by
  refine ⟨by simp [h.len], fun x hx => ?_, fun k hk => ?_⟩
  · rcases List.mem_append.mp hx with q | q
    · exact h.ok x q
    · rw [List.mem_singleton.mp q]
      exact hb
  · by_cases q : k < n
    · rw [List.getD_eq_getElem?_getD, List.getElem?_append_left (by rw [h.len]; exact q), ← List.getD_eq_getElem?_getD]
      exact h.at_ k q
    · obtain rfl : k = n := by omega
      rw [List.getD_eq_getElem?_getD, List.getElem?_append_right (by rw [h.len]; omega), h.len, Nat.sub_self]
      exact hv
theorem PartOk.row {r : List Fr} {n : Nat} {f : Nat → Rat} (h : PartOk r n f) (hz : ∀ k, n ≤ k → f k = 0) : RowOk r n f := by
  refine ⟨h.len, h.ok, fun k => ?_⟩
  by_cases q : k < n
  · exact h.at_ k q
  · rw [hz k (by omega), List.getD_eq_getElem?_getD, List.getElem?_eq_none (by rw [h.len]; omega)]
    exact val_zero
theorem frD2_inj {x y a b : Fr} (h : [frD x, frD y] = [frD a, frD b]) : x = a ∧ y = b := by
  simp only [List.cons.injEq, and_true] at h
  exact ⟨frD_inj h.1, frD_inj h.2⟩
def padR (r : List Fr) (m : Nat) : List Fr := r ++ List.replicate (m - r.length) (0, 1)
theorem pad_eq (r : List Fr) {m : Nat} (h : r.length ≤ m) : r.map frD ++ (List.replicate ((m : Int) - ((r.map frD).length : Int)).toNat [PyData.tuple [.int 0, .int 1]]).flatten = (padR r m).map frD := by
  unfold padR
  rw [List.map_append, List.flatten_replicate_singleton, List.map_replicate, List.length_map]
  congr 2
  omega
theorem pad_at (r : List Fr) {m i : Nat} (h : i < max r.length m) : atI ((padR r m).map frD) (i : Int) = some (frD (r.getD i (0, 1))) := by
  rw [atI_n, List.getElem?_map]
  unfold padR
  by_cases q : i < r.length
  · rw [List.getElem?_append_left q, List.getElem?_eq_getElem q, List.getD_eq_getElem?_getD, List.getElem?_eq_getElem q]
    rfl
  · rw [List.getElem?_append_right (by omega), List.getElem?_replicate, if_pos (by omega), List.getD_eq_getElem?_getD, List.getElem?_eq_none (by omega)]
    rfl
theorem sm_getD {r : List Fr} (h : ∀ a ∈ r, Sm a) (i : Nat) : Sm (r.getD i (0, 1)) := by
  by_cases q : i < r.length
  · rw [List.getD_eq_getElem?_getD, List.getElem?_eq_getElem q]
    exact h _ (List.getElem_mem q)
  · rw [List.getD_eq_getElem?_getD, List.getElem?_eq_none (by omega)]
    exact ⟨by decide, by decide +kernel, by decide +kernel⟩
def Gsm (f : Nat → Rat) : Prop := ∃ S u, Rel S u f ∧ bd u 1200 ∧ S.natAbs < 2 ^ 1200
theorem RowOk.smE {r : List Fr} {n : Nat} {f : Nat → Rat} (h : RowOk r n f) {e : Nat} (he : e ≤ 4000) (g : ∃ S u, Rel S u f ∧ bd u e ∧ S.natAbs < 2 ^ e) : ∀ a ∈ r, Sm a := fun a ha => by
  obtain ⟨S, u, rl, bu, bS⟩ := g
  obtain ⟨k, hk, e1⟩ := List.getElem_of_mem ha
  have v := h.at_ k
  rw [List.getD_eq_getElem?_getD, List.getElem?_eq_getElem hk] at v
  have v2 : val a = f k := by rw [← e1]; exact v
  have f1 := h.ok a ha
  obtain ⟨s1, s2, _⟩ := f1.small (u := u.getD k 0) rl.pos (by
    rw [v2, rl.at_ k]
    grind)
  exact ⟨f1.1, pow_up (Nat.lt_of_le_of_lt s1 (bu.get k)) he, pow_up (Nat.lt_of_le_of_lt s2 bS) he⟩
theorem RowOk.sm {r : List Fr} {n : Nat} {f : Nat → Rat} (h : RowOk r n f) (g : Gsm f) : ∀ a ∈ r, Sm a := h.smE (e := 1200) (by decide) g
theorem RowOk.congr {r : List Fr} {n m : Nat} {f g : Nat → Rat} (h : RowOk r n f) (e : n = m) (hf : ∀ k, f k = g k) : RowOk r m g := ⟨by rw [← e]; exact h.len, h.ok, fun k => by rw [← hf k]; exact h.at_ k⟩
theorem lcm_step {U x S : Int} (hU : 0 < U) (hx : 0 < x) (h1 : U ∣ S) (h2 : x ∣ S) : 0 < ((Nat.gcd U.natAbs x.natAbs : Nat) : Int) ∧ 0 < U * x / ((Nat.gcd U.natAbs x.natAbs : Nat) : Int) ∧ U ∣ U * x / ((Nat.gcd U.natAbs x.natAbs : Nat) : Int) ∧ x ∣ U * x / ((Nat.gcd U.natAbs x.natAbs : Nat) : Int) ∧ U * x / ((Nat.gcd U.natAbs x.natAbs : Nat) : Int) ∣ S := by
  obtain ⟨a, rfl⟩ := Int.eq_ofNat_of_zero_le (Int.le_of_lt hU)
  obtain ⟨b, rfl⟩ := Int.eq_ofNat_of_zero_le (Int.le_of_lt hx)
  have e : (a : Int) * (b : Int) / ((Nat.gcd (a : Int).natAbs (b : Int).natAbs : Nat) : Int) = ((Nat.lcm a b : Nat) : Int) := by
    rw [Int.natAbs_natCast, Int.natAbs_natCast, ← Int.natCast_mul, ← Int.natCast_ediv]
    rfl
  rw [e]
  have l0 := Nat.lcm_pos (m := a) (n := b) (by omega) (by omega)
  refine ⟨by rw [Int.natAbs_natCast, Int.natAbs_natCast]; have := Nat.gcd_pos_of_pos_left b (show 0 < a by omega); omega, by omega, Int.ofNat_dvd.mpr (Nat.dvd_lcm_left a b), Int.ofNat_dvd.mpr (Nat.dvd_lcm_right a b), ?_⟩
  have h3 : a ∣ S.natAbs := by simpa using Int.natAbs_dvd_natAbs.mpr h1
  have h4 : b ∣ S.natAbs := by simpa using Int.natAbs_dvd_natAbs.mpr h2
  exact Int.dvd_natAbs.mp (Int.ofNat_dvd.mpr (Nat.lcm_dvd h3 h4))
theorem Rows.same {dd ss dd2 ss2 : List Fr} {a b : List (List Int)} (ha : Rows dd ss a) (hb : Rows dd2 ss2 b) (hl : dd2.length = dd.length) (hp : ∀ j, j ≤ dd.length → ∃ p q : Int, 0 < p ∧ 0 < q ∧ ∀ k, (q : Rat) * pol dd2 ss2 j k = p * pol dd ss j k) : b = a := by
  have la := ha.len
  have lb := hb.len
  apply List.ext_getElem?
  intro j
  by_cases hj : j ≤ dd.length
  · have h1 : a[j]? = some a[j] := List.getElem?_eq_getElem (by omega)
    have h2 : b[j]? = some b[j] := List.getElem?_eq_getElem (by omega)
    rw [h1, h2]
    obtain ⟨u, S, e1, r1, l1, _⟩ := ha.row j _ h1
    obtain ⟨v, T, e2, r2, l2, _⟩ := hb.row j _ h2
    rw [e1, e2]
    congr 1
    obtain ⟨p, q, hp0, hq0, hpq⟩ := hp j hj
    refine prim_eq (a := S * q) (b := T * p) (Int.mul_pos r1.pos hq0) (Int.mul_pos r2.pos hp0) (by omega) fun k => ?_
    have a1 := r1.at_ k
    have a2 := r2.at_ k
    have a3 := hpq k
    have : ((S * q * v.getD k 0 : Int) : Rat) = ((T * p * u.getD k 0 : Int) : Rat) := by
      rw [Rat.intCast_mul, Rat.intCast_mul, Rat.intCast_mul, Rat.intCast_mul, a1, a2]
      grind
    exact Rat.intCast_inj.mp this
  · rw [List.getElem?_eq_none (by omega), List.getElem?_eq_none (by omega)]
theorem Rows.uniq {dd ss : List Fr} {a b : List (List Int)} (ha : Rows dd ss a) (h : LN dd ss) (hb : Rows dd ss b) : b = a := ha.same hb rfl fun j _ => ⟨1, 1, by decide, by decide, fun k => rfl⟩
structure Sh (ws : List (List Int)) : Prop where
  len : ws.length ≤ 9
  row : ∀ w ∈ ws, w.length ≤ 9 ∧ bd w 1200
theorem Rows.sh {dd ss : List Fr} {ws : List (List Int)} (h : Rows dd ss ws) (h8 : dd.length ≤ 8) : Sh ws := by
  have hl := h.len
  refine ⟨by omega, fun w hw => ?_⟩
  obtain ⟨j, hj, e⟩ := List.getElem_of_mem hw
  obtain ⟨u, S, e1, r1, l1, b1⟩ := h.row j w (by rw [List.getElem?_eq_getElem hj, e])
  refine ⟨by rw [e1, prim_len]; omega, ?_⟩
  rw [e1]
  exact bd.of_get fun k => Nat.lt_of_le_of_lt (prim_abs u k) (b1.get k)
theorem Rows.first {dd ss : List Fr} {ws : List (List Int)} (R : Rows dd ss ws) (h : LN dd ss) : ∃ w, ws[0]? = some w ∧ w = [1] := by
  have hl := R.len
  refine ⟨ws[0], List.getElem?_eq_getElem (by omega), ?_⟩
  obtain ⟨u, S, e, r, l, b⟩ := R.row 0 ws[0] (List.getElem?_eq_getElem (by omega))
  rw [e]
  match u, l with
  | [x], _ =>
    have ld := r.at_ 0
    have n1 := h.c1
    have p0 : pol dd ss 0 0 = 1 := by
      unfold pol
      rw [if_pos (by omega)]
      rfl
    rw [p0] at ld
    have hx : x = S := by
      apply Rat.intCast_inj.mp
      have : (([x] : List Int).getD 0 0) = x := rfl
      rw [this] at ld
      rw [ld]
      grind
    have hS := r.pos
    subst hx
    show [x / ((Nat.gcd x.natAbs 0 : Nat) : Int)] = [1]
    rw [Nat.gcd_zero_right, show ((x.natAbs : Nat) : Int) = x by omega, Int.ediv_self (by omega)]
end Mx
namespace Mx
open PySem PySem.Spec PyProof.Rows L2 DL
section
variable {K : PySem.W.Frag} {B : Bs} {G : List Hp} {L : List Addr} {Γ : List Sl} {ta tb : TE}
end

/-! ### how great the parts of a fraction get -/
def GS (e : Nat) (v : Rat) : Prop := ∃ a b : Int, 0 < b ∧ v * (b : Rat) = (a : Rat) ∧ a.natAbs < 2 ^ e ∧ b.natAbs < 2 ^ e
theorem GS.fr {x : Fr} {e : Nat} (g : GS e (val x)) (h : FOk x) : x.1.natAbs < 2 ^ e ∧ x.2.natAbs < 2 ^ e := by
  obtain ⟨a, b, hb, e1, ha, hb2⟩ := g
  have := h.small hb e1
  exact ⟨Nat.lt_of_le_of_lt this.1 ha, Nat.lt_of_le_of_lt this.2.1 hb2⟩
theorem GS.sm {x : Fr} {e : Nat} (g : GS e (val x)) (h : FOk x) (he : e ≤ 4000) : Sm x := ⟨h.1, pow_up (g.fr h).1 he, pow_up (g.fr h).2 he⟩
theorem GS.up {e f : Nat} {v : Rat} (g : GS e v) (h : e ≤ f) : GS f v := by
  obtain ⟨a, b, hb, e1, ha, hb2⟩ := g
  exact ⟨a, b, hb, e1, pow_up ha h, pow_up hb2 h⟩
theorem val_mul {x : Fr} (h : 0 < x.2) : val x * ((x.2 : Int) : Rat) = (x.1 : Rat) := by
  have := ratInt_ne (a := x.2) (by omega)
  unfold val
  grind
theorem GS.of {x : Fr} {e : Nat} (h : 0 < x.2) (h1 : x.1.natAbs < 2 ^ e) (h2 : x.2.natAbs < 2 ^ e) : GS e (val x) := ⟨x.1, x.2, h, val_mul h, h1, h2⟩
theorem GS.add {e f : Nat} {u v : Rat} (g : GS e u) (h : GS f v) : GS (e + f + 1) (u + v) := by
  obtain ⟨a, b, hb, e1, ha, hb2⟩ := g
  obtain ⟨c, d, hd, e2, hc, hd2⟩ := h
  refine ⟨a * d + b * c, b * d, Int.mul_pos hb hd, ?_, natAbs_add_lt (natAbs_mul_lt ha hd2) (natAbs_mul_lt hb2 hc), pow_up (natAbs_mul_lt hb2 hd2) (by omega)⟩
  rw [Rat.intCast_add, Rat.intCast_mul, Rat.intCast_mul, Rat.intCast_mul, ← e1, ← e2]
  grind
theorem pos_num {v : Rat} {a b : Int} (hv : 0 < v) (hb : 0 < b) (e : v * (b : Rat) = (a : Rat)) : 0 < a := by
  have := Rat.mul_pos hv (ratInt_pos hb)
  rw [e] at this
  exact Rat.intCast_pos.mp this
theorem GS.div {e f : Nat} {u v : Rat} (g : GS e u) (h : GS f v) (hv : 0 < v) : GS (e + f) (u / v) := by
  obtain ⟨a, b, hb, e1, ha, hb2⟩ := g
  obtain ⟨c, d, hd, e2, hc, hd2⟩ := h
  have hc0 := pos_num hv hd e2
  refine ⟨a * d, b * c, Int.mul_pos hb hc0, ?_, natAbs_mul_lt ha hd2, natAbs_mul_lt hb2 hc⟩
  rw [Rat.intCast_mul, Rat.intCast_mul, ← e1, ← e2]
  grind
/-- two numbers over one denominator -/
def G2 (e : Nat) (t a : Rat) : Prop := ∃ S T A : Int, 0 < S ∧ t * (S : Rat) = (T : Rat) ∧ a * (S : Rat) = (A : Rat) ∧ S.natAbs < 2 ^ e ∧ T.natAbs < 2 ^ e ∧ A.natAbs < 2 ^ e
theorem G2.l {e : Nat} {t a : Rat} (g : G2 e t a) : GS e t := by
  obtain ⟨S, T, A, s0, h1, h2, h3, h4, h5⟩ := g
  exact ⟨T, S, s0, h1, h4, h3⟩
theorem G2.r {e : Nat} {t a : Rat} (g : G2 e t a) : GS e a := by
  obtain ⟨S, T, A, s0, h1, h2, h3, h4, h5⟩ := g
  exact ⟨A, S, s0, h2, h5, h3⟩
theorem natAbs_sub_lt {a b : Int} {m : Nat} (ha : a.natAbs < 2 ^ m) (hb : b.natAbs < 2 ^ m) : (a - b).natAbs < 2 ^ (m + 1) := by
  rw [Int.sub_eq_add_neg]
  exact natAbs_add_lt ha (by rw [Int.natAbs_neg]; exact hb)
theorem G2.less {e f : Nat} {t a x : Rat} (g : G2 e t a) (h : GS f x) : G2 (e + f + 1) (t - x * a) a := by
  obtain ⟨S, T, A, s0, h1, h2, h3, h4, h5⟩ := g
  obtain ⟨c, d, hd, e2, hc, hd2⟩ := h
  refine ⟨S * d, T * d - A * c, A * d, Int.mul_pos s0 hd, ?_, ?_, pow_up (natAbs_mul_lt h3 hd2) (by omega), natAbs_sub_lt (natAbs_mul_lt h4 hd2) (natAbs_mul_lt h5 hc), pow_up (natAbs_mul_lt h5 hd2) (by omega)⟩
  · rw [Rat.intCast_sub, Rat.intCast_mul, Rat.intCast_mul, Rat.intCast_mul, ← h1, ← h2, ← e2]
    grind
  · rw [Rat.intCast_mul, Rat.intCast_mul, ← h2]
    grind
theorem G2.more {e f : Nat} {t a k : Rat} (g : G2 e t a) (h : GS f k) (hk : 0 < k) : G2 (e + f + 1) t (a + t / k) := by
  obtain ⟨S, T, A, s0, h1, h2, h3, h4, h5⟩ := g
  obtain ⟨c, d, hd, e2, hc, hd2⟩ := h
  have hc0 := pos_num hk hd e2
  refine ⟨S * c, T * c, A * c + T * d, Int.mul_pos s0 hc0, ?_, ?_, pow_up (natAbs_mul_lt h3 hc) (by omega), pow_up (natAbs_mul_lt h4 hc) (by omega), natAbs_add_lt (natAbs_mul_lt h5 hc) (natAbs_mul_lt h4 hd2)⟩
  · rw [Rat.intCast_mul, Rat.intCast_mul, ← h1]
    grind
  · rw [Rat.intCast_add, Rat.intCast_mul, Rat.intCast_mul, Rat.intCast_mul, ← h1, ← h2, ← e2]
    grind

/-! ### the row by fractions -/
/-! ### a pace beyond all swings -/
def fs (J K : Nat → Rat) : Nat → Rat
  | 0 => 1
  | i + 1 => fs J K i + 2 * ((K i + K (i + 1)) / J i)
/-! ### signs -/
def live (l : List Int) : List Int := (l.filter (· ≠ 0)).map sgn
end Mx
namespace Mx
open PySem PySem.Spec PyProof.Rows L2 DL
/-! ### none and all slower: the signs of the row -/
/-! ### the quotient of a shape -/
/-- twists are told by w (k + 1) - w k, turns by w (k + 1) -/
def kf (K w : Nat → Rat) : Nat → Rat
  | 0 => 0
  | k + 1 => kf K w k + K k * ((w (k + 1) - w k) * (w (k + 1) - w k))
theorem prod_zero {a b : Rat} (ha : a ≠ 0) (h : a * b = 0) : b = 0 := by grind
/-! ### the pivots of the table -/
def pv (J K : Nat → Rat) (p : Rat) : Nat → Rat
  | 0 => K 0 + K 1 - p * J 0
  | i + 1 => K (i + 1) + K (i + 2) - p * J (i + 1) - K (i + 1) * K (i + 1) / pv J K p i
end Mx
/-! Counting in a list, a test by None, a name for an object. -/
namespace Mx
open PySem PySem.Spec PyProof.Rows L2 DL
section
variable {K : PySem.W.Frag} {B : Bs} {G : List Hp} {L : List Addr} {Γ : List Sl} {H H' : Hp} {σ : L2.St} {te ta : TE} {k : PyData → Prop} {u : TS} {P : PD}
end
/-- turns by places: 0 ahead of the first and behind the last -/
def uv (us : List Int) (k : Nat) : Rat := ((us.getD k 0 : Int) : Rat)
def wv (us : List Int) (k : Nat) : Rat := (((0 :: us).getD k 0 : Int) : Rat)
/-- turns that are small -/
structure Turns (us : List Int) (c : Nat) : Prop where
  len : us.length = c
  sm : ∀ x ∈ us, -3 ≤ x ∧ x ≤ 3
  ne : ∃ x ∈ us, x ≠ 0
theorem Turns.get {us : List Int} {c : Nat} (h : Turns us c) (k : Nat) : -3 ≤ us.getD k 0 ∧ us.getD k 0 ≤ 3 := by
  by_cases q : k < us.length
  · rw [List.getD_eq_getElem?_getD, List.getElem?_eq_getElem q]
    exact h.sm _ (List.getElem_mem q)
  · rw [getD_out (by omega)]
    decide
theorem Turns.getW {us : List Int} {c : Nat} (h : Turns us c) (k : Nat) : -3 ≤ (0 :: us).getD k 0 ∧ (0 :: us).getD k 0 ≤ 3 := by
  cases k with
  | zero => exact ⟨by show (-3 : Int) ≤ 0; decide, by show (0 : Int) ≤ 3; decide⟩
  | succ k => exact h.get k
theorem Turns.some {us : List Int} {c : Nat} (h : Turns us c) : ∃ j, j < c ∧ uv us j ≠ 0 := by
  obtain ⟨x, hx, ne⟩ := h.ne
  obtain ⟨j, hj, e⟩ := List.getElem_of_mem hx
  refine ⟨j, by rw [← h.len]; exact hj, ?_⟩
  unfold uv
  rw [List.getD_eq_getElem?_getD, List.getElem?_eq_getElem hj]
  show ((us[j] : Int) : Rat) ≠ 0
  rw [e]
  exact ratInt_ne ne
/-- rows of pivots -/
structure PivAt (dd ss : List Fr) (p : Fr) (i : Nat) (ps : List Fr) : Prop where
  len : ps.length = i
  ok : ∀ j, j < i → FOk (ps.getD j (0, 1)) ∧ (ps.getD j (0, 1)).1 ≠ 0 ∧ val (ps.getD j (0, 1)) = pv (jv dd) (jv ss) (val p) j
theorem PivAt.ne {dd ss : List Fr} {p : Fr} {i : Nat} {ps : List Fr} (h : PivAt dd ss p i ps) : ∀ j, j < i → pv (jv dd) (jv ss) (val p) j ≠ 0 := fun j hj => by
  obtain ⟨a, b, c⟩ := h.ok j hj
  rw [← c]
  intro z
  exact b ((val_pos a.1).2.2.mp z)
theorem PivAt.push {dd ss : List Fr} {p : Fr} {i : Nat} {ps : List Fr} (h : PivAt dd ss p i ps) {b : Fr} (f : FOk b) (n : b.1 ≠ 0) (v : val b = pv (jv dd) (jv ss) (val p) i) : PivAt dd ss p (i + 1) (ps ++ [b]) := by
  refine ⟨by simp [h.len], fun j hj => ?_⟩
  by_cases q : j < i
  · rw [List.getD_eq_getElem?_getD, List.getElem?_append_left (by rw [h.len]; exact q), ← List.getD_eq_getElem?_getD]
    exact h.ok j q
  · obtain rfl : j = i := by omega
    rw [List.getD_eq_getElem?_getD, List.getElem?_append_right (by rw [h.len]; omega), h.len, Nat.sub_self]
    exact ⟨f, n, v⟩
end Mx
namespace Mx
open PySem PySem.Spec PyProof.Rows L2 DL
section
variable {K : PySem.W.Frag} {B : Bs} {G : List Hp} {L : List Addr} {Γ : List Sl} {t : TS} {P : PD}
/-- what two ways of a statement have in common -/
theorem st_join (J : List Addr → List Sl → Prop) (h : StP K B G L Γ t { P with nx := J }) (hJ : ∀ L2 Γ2, J L2 Γ2 → P.nx L2 Γ2) : StP K B G L Γ t P := fun σ H D E M =>
  h σ H D E ⟨fun L2 Γ2 σ2 H2 q E2 => M.nx _ _ _ _ (hJ _ _ q) E2, M.rt, M.bk, M.ct⟩
end
theorem at_last {α : Type} (xs : List α) {n : Nat} (h : xs.length = n + 1) : atI xs (-1) = xs[n]? := by
  unfold atI ixN
  rw [if_neg (by decide)]
  rw [if_pos (by omega)]
  show xs[_]? = _
  congr 1
  omega
end Mx
namespace Mx
open PySem PySem.Spec PyProof.Rows L2 DL
/-! ### a disc held: the counts of both parts -/
/-! ### parts and changes of lines -/
theorem LN.ahead {dd ss : List Fr} (h : LN dd ss) {k : Nat} (h0 : 0 < k) (hk : k < dd.length) : LN (dd.take k) (ss.take (k + 1)) := by
  have hl := h.len
  have n8 := h.c8
  refine ⟨by rw [List.length_take]; omega, by rw [List.length_take]; omega, by rw [List.length_take, List.length_take]; omega, fun x hx => h.dok x (List.mem_of_mem_take hx), fun x hx => h.sok x (List.mem_of_mem_take hx), fun i x hi hic hx => ?_⟩
  rw [List.length_take] at hic
  rw [List.getElem?_take, if_pos (by omega)] at hx
  exact h.inn i x hi (by omega) hx
theorem LN.behind {dd ss : List Fr} (h : LN dd ss) {k : Nat} (hk : k + 1 < dd.length) : LN (dd.drop (k + 1)) (ss.drop (k + 1)) := by
  have hl := h.len
  have n8 := h.c8
  refine ⟨by rw [List.length_drop]; omega, by rw [List.length_drop]; omega, by rw [List.length_drop, List.length_drop]; omega, fun x hx => h.dok x (List.mem_of_mem_drop hx), fun x hx => h.sok x (List.mem_of_mem_drop hx), fun i x hi hic hx => ?_⟩
  rw [List.length_drop] at hic
  rw [List.getElem?_drop] at hx
  exact h.inn (k + 1 + i) x (by omega) (by omega) hx
/-! ### what can be shown -/
def Sho (e c : Nat) (d : PyData) : Prop := d.showable = true ∧ d.hasDict = false ∧ d.depth ≤ e ∧ cost d ≤ c
theorem sho_up {e c e' c' : Nat} {d : PyData} (h : Sho e c d) (he : e ≤ e') (hc : c ≤ c') : Sho e' c' d := ⟨h.1, h.2.1, Nat.le_trans h.2.2.1 he, Nat.le_trans h.2.2.2 hc⟩
theorem sho_int {i : Int} (h : i.natAbs < 2 ^ 1900) : Sho 0 1921 (.int i) := by
  refine ⟨?_, rfl, Nat.le_refl _, Nat.le_refl _⟩
  show decide (i.natAbs.log2 < 1920) = true
  have := lg h
  exact decide_eq_true (by omega)
theorem sho_all {e c : Nat} : ∀ {ds : List PyData}, (∀ d ∈ ds, Sho e c d) → PyData.showableAll ds = true ∧ PyData.hasDictAll ds = false ∧ PyData.depthAll ds ≤ e ∧ costAll ds ≤ (c + 2) * ds.length
  | [], _ => by simp [PyData.showableAll, PyData.hasDictAll, PyData.depthAll, costAll]
  | d :: ds, h => by
    obtain ⟨a, b, c', d'⟩ := sho_all (ds := ds) fun x hx => h x (List.mem_cons_of_mem _ hx)
    obtain ⟨p, q, r, s⟩ := h d (List.mem_cons_self ..)
    simp only [PyData.showableAll, PyData.hasDictAll, PyData.depthAll, costAll, a, b, p, q, List.length_cons]
    refine ⟨rfl, rfl, by omega, ?_⟩
    rw [Nat.mul_add]
    omega
theorem sho_tup {e c : Nat} {ds : List PyData} (h : ∀ d ∈ ds, Sho e c d) : Sho (e + 1) ((c + 2) * ds.length + 3) (.tuple ds) := by
  obtain ⟨a, b, c', d'⟩ := sho_all h
  simp only [Sho, PyData.showable, PyData.hasDict, PyData.depth, cost]
  exact ⟨a, b, by omega, by omega⟩
/-! ### slices, sums, being in a list -/
section
variable {K : PySem.W.Frag} {B : Bs} {G : List Hp} {L : List Addr} {Γ : List Sl} {k : PyData → Prop}
theorem cok_show {d : PyData} {e c : Nat} (h : Sho e c d) (hb : isBox d = true) (he : e < 64) (hc : c ≤ 1000000) (hk : k (.str d.shown)) : COk K B G L Γ (rReprD K) [d] k := cok_repr hb h.1 h.2.1 (Nat.lt_of_le_of_lt h.2.2.1 he) (sz_ok (Nat.le_trans h.2.2.2 hc)) hk
end
end Mx
/-! Slices of rows of fractions; one element otherwise. -/
namespace Mx
open PySem PySem.Spec PyProof.Rows L2 DL
section
variable {K : PySem.W.Frag} {B : Bs} {G : List Hp} {L : List Addr} {Γ : List Sl} {te ta : TE} {k : PyData → Prop}
end
theorem lay_frs : ∀ r : List Fr, PyData.canLayAll0 (r.map frD) = true ∧ PyData.depthAll (r.map frD) ≤ 1 ∧ PyData.hasDictAll (r.map frD) = false
  | [] => by simp [PyData.canLayAll0, PyData.depthAll, PyData.hasDictAll]
  | x :: r => by
    obtain ⟨a, b, c⟩ := lay_frs r
    simp [PyData.canLayAll0, PyData.depthAll, PyData.hasDictAll, frD, PyData.canLay0, PyData.depth, PyData.hasDict, a, c] at b ⊢
    omega
end Mx
/-! Counts of lines beside one another: heavier discs and softer shafts have no fewer slower swings. -/
namespace Mx
/-! ### one number otherwise: one more or less at most -/
end Mx
/-! Calls with some arguments by name, in any order. -/
namespace DL
open PySem PySem.Spec PyProof.Rows L2
def gP (m n : Nat) (js : List Nat) (us ws : List Value) : List Value := if us.length = m ∧ ws.length = n then us ++ js.map (fun j => ws.getD j .none) else []
def gPV (m n : Nat) (js : List Nat) (vs zs : List V) : List V := if vs.length = m ∧ zs.length = n then vs ++ js.map (fun j => zs.getD j .non) else []
def gPD (m n : Nat) (js : List Nat) (ds es : List PyData) : List PyData := if ds.length = m ∧ es.length = n then ds ++ js.map (fun j => es.getD j .none) else []
theorem vals_app {vs ws : List V} {us zs : List Value} : Vals vs us → Vals ws zs → Vals (vs ++ ws) (us ++ zs)
  | .nil, h => h
  | .cons a b, h => .cons a (vals_app b h)
theorem vals_getD : ∀ {zs : List V} {ws : List Value} (j : Nat), Vals zs ws → RelV (zs.getD j .non) (ws.getD j .none)
  | [], [], _, _ => rfl
  | _ :: _, _ :: _, 0, .cons a _ => a
  | _ :: _, _ :: _, j + 1, .cons _ b => vals_getD j b
theorem vals_pick {zs : List V} {ws : List Value} (h : Vals zs ws) : ∀ js : List Nat, Vals (js.map fun j => zs.getD j .non) (js.map fun j => ws.getD j .none)
  | [] => .nil
  | j :: js => .cons (vals_getD j h) (vals_pick h js)
theorem dna_getD {K : PySem.W.Frag} {H : Hp} : ∀ {zs : List V} {es : List PyData} (j : Nat), DnA K H zs es → Dn K H (zs.getD j .non) (es.getD j .none)
  | [], [], _, _ => .non
  | _ :: _, _ :: _, 0, .cons a _ => a
  | _ :: _, _ :: _, j + 1, .cons _ b => dna_getD j b
theorem dna_pick {K : PySem.W.Frag} {H : Hp} {zs : List V} {es : List PyData} (h : DnA K H zs es) : ∀ js : List Nat, DnA K H (js.map fun j => zs.getD j .non) (js.map fun j => es.getD j .none)
  | [] => .nil
  | j :: js => .cons (dna_getD j h) (dna_pick h js)
theorem dna_gP {K : PySem.W.Frag} {H : Hp} {vs zs : List V} {ds es : List PyData} (h1 : DnA K H vs ds) (h2 : DnA K H zs es) (m n : Nat) (js : List Nat) : DnA K H (gPV m n js vs zs) (gPD m n js ds es) := by
  unfold gPV gPD
  rw [h1.length, h2.length]
  split
  · exact h1.append (dna_pick h2 js)
  · exact .nil
theorem Fun.kbindsP {K : PySem.W.Frag} {x qual : Str} {st : Stmt} {f : Addr} {fd : FuncData} {ps ks : List Str} (F : Fun K x qual st f fd) (hne : ps ≠ []) (m n : Nat) (js : List Nat)
    (h : ∀ (kV doc pm : Value) (an : Option Addr) (cdv ct : Value) (us ws : List Value), us.length = m → ws.length = n → bindArgs (PySem.W.fnOf x qual (defArgs st) (defBody st) (defScope st) .none kV doc pm an cdv ct) ⟨us, ks.zip ws⟩ = pure (ps.zip (us ++ js.map fun j => ws.getD j .none))) : KBinds K fd ps ks (gP m n js) (gPV m n js) := by
  obtain ⟨oc, od, kV, doc, pm, an, cdv, ct, osl, rfl, lk, hcd⟩ := F.ex
  refine ⟨fun s us ws _ hl => ?_, fun {vs us zs ws} r rz => ?_⟩
  · unfold gP at hl ⊢
    split at hl
    · rename_i hc
      rw [if_pos hc]
      exact BindsTo.of_eq (h kV doc pm an cdv ct us ws hc.1 hc.2)
    · cases ps with
      | nil => exact absurd rfl hne
      | cons c d => cases hl
  · unfold gP gPV
    rw [r.length, rz.length]
    split
    · exact vals_app r (vals_pick rz js)
    · exact .nil
section
variable {X : Cx} {x : Str} {p pos : Pos} {k : Nat} {f : Addr} {fd : FuncData} {ps ks : List Str} {sp : Sp} {CX : CXT} {E : XK} {tk : TA} {kws : List Keyword} {g : List Value → List Value → List Value} {gV : List V → List V → List V}
def tCallN (sp : Sp) (gV : List V → List V → List V) (E : XK) (tk : TA) : TE := fun σ H Q => tk σ H fun zs H1 => sp (gV [] zs) H1 Q E
theorem pe_callN (F : FnOk X.prog X.w X.K X.mg X.base CX k f fd ps sp) (hr : Room k X.A) (hg : Gl X x) (hm : X.mg x = some (.ref f)) (hk : PySem.W.keepIn X.K (.ref f) = true) (hb : KBinds X.K fd ps ks g gV) (hx : Passes CX X E)
    (hkw : PK X kws tk) (hall : (backToKw pos (keywordEach kws X.env)).all (·.1.isSome) = true := by rfl) (hks : (backToKw pos (keywordEach kws X.env)).filterMap (·.1) = ks := by rfl)
    (hdb : (x == ("__debug__" : Str)) = false := by decide)
    (hpl : ((backTo pos (starEach [] X.env)).any (·.1) || (backToKw pos (keywordEach kws X.env)).any (·.1.isNone)) = false := by rfl) :
    PE X (.Call (.Name x p) [] kws pos) (tCallN sp gV E tk) := by
  refine ⟨fun pins s σ H Q I h => ?_⟩
  refine wpAny_Call_Name_kw (ld_glob I hg hm ?_ hdb)
  refine PySem.W.callWith_KW0 (h₀ := X.base) I.ok.mod.kin hk hall ?_ hpl
  refine thn (hkw.run pos pins s σ H _ I h) fun ws s2 ⟨zs, H2, I2, rz, q2⟩ => ⟨I2.kIn, ?_⟩
  rw [hks]
  exact run_fnk (us := []) (vs := []) F hr hb hx I2 .nil rz q2
end
section
variable {K : PySem.W.Frag} {B : Bs} {G : List Hp} {L : List Addr} {Γ : List Sl} {tr tk : TA} {k : PyData → Prop}
theorem ev_callN {pre : List PyData → Prop} {post : List PyData → PyData → Prop} {E0 : XK} {m n : Nat} {js : List Nat} (h : EvA K B G L Γ tk fun es => pre (gPD m n js [] es) ∧ ∀ d, post (gPD m n js [] es) d → k d) : EvP K B G L Γ (tCallN (SpP K pre post) (gPV m n js) E0 tk) k := fun σ H Q E q =>
  h σ H _ E fun zs es H1 g1 dn ⟨hp, hk⟩ => by
    refine ⟨L ++ B.M, gPD m n js [] es, g1.env.alive, dna_gP .nil dn m n js, hp, fun v d H' hs dv hpost => ?_⟩
    have g2 := Go.step g1.env (H' := H') (fun a o _ e => hs a o e) fun w hw => by
      obtain ⟨n, b, c, e, q⟩ := g1.env.ws w hw
      exact ⟨n, b, c, hs _ _ e, q⟩
    exact q v d H' (g1.trans g2) dv (hk d hpost)
end
end DL
/-! More of lists: list(range(n)), two lists at once, two places at once, xs[::-1], unpacking. -/
namespace DL
open PySem PySem.Spec PyProof.Rows L2
section
variable {K : PySem.W.Frag} {B : Bs} {G : List Hp} {L : List Addr} {Γ : List Sl} {H H' H2 : Hp} {σ : L2.St}
variable {te tf ta tb : TE} {k : PyData → Prop} {P : PD}
end
end DL
/-! Lines, slots and amounts of the later laws. -/
namespace Mx
open PySem PySem.Spec PyProof.Rows L2 DL
/-- a row of angles, and the end -/
structure AngR (dd ss : List Fr) (p : Fr) (n : Nat) (rs : List Fr) : Prop where
  len : rs.length = n
  ok : ∀ x ∈ rs, FOk x
  inn : ∀ j, j < n → val (rs.getD j (0, 1)) = xa (jv dd) (jv ss) (val p) j
theorem AngR.push {dd ss : List Fr} {p : Fr} {n : Nat} {rs : List Fr} (h : AngR dd ss p n rs) {b : Fr} (hb : FOk b) (hv : val b = xa (jv dd) (jv ss) (val p) n) : AngR dd ss p (n + 1) (rs ++ [b]) := by
  refine ⟨by simp [h.len], fun x hx => ?_, fun j hj => ?_⟩
  · rcases List.mem_append.mp hx with q | q
    · exact h.ok x q
    · rw [List.mem_singleton.mp q]
      exact hb
  · by_cases q : j < n
    · rw [List.getD_eq_getElem?_getD, List.getElem?_append_left (by rw [h.len]; exact q), ← List.getD_eq_getElem?_getD]
      exact h.inn j q
    · obtain rfl : j = n := by omega
      rw [List.getD_eq_getElem?_getD, List.getElem?_append_right (by rw [h.len]; omega), h.len, Nat.sub_self]
      exact hv
theorem AngR.get {dd ss : List Fr} {p : Fr} {n : Nat} {rs : List Fr} (h : AngR dd ss p n rs) {j : Nat} (hj : j < n) : rs[j]? = some (rs.getD j (0, 1)) ∧ FOk (rs.getD j (0, 1)) := by
  have e : rs[j]? = some (rs.getD j (0, 1)) := by
    rw [List.getD_eq_getElem?_getD, List.getElem?_eq_getElem (by rw [h.len]; exact hj)]
    rfl
  exact ⟨e, h.ok _ (List.mem_of_getElem? e)⟩
end Mx
namespace Mx
open PySem PySem.Spec PyProof.Rows L2 DL
/-! ### the product of two shapes -/
def tf (K w v : Nat → Rat) : Nat → Rat
  | 0 => 0
  | k + 1 => tf K w v k + K k * ((w (k + 1) - w k) * (v (k + 1) - v k))
/-- turns that are not great -/
structure Trn (us : List Int) (c : Nat) (b : Int) : Prop where
  len : us.length = c
  sm : ∀ x ∈ us, -b ≤ x ∧ x ≤ b
  nn : 0 ≤ b
theorem Trn.get {us : List Int} {c : Nat} {b : Int} (h : Trn us c b) (k : Nat) : -b ≤ us.getD k 0 ∧ us.getD k 0 ≤ b := by
  by_cases q : k < us.length
  · rw [List.getD_eq_getElem?_getD, List.getElem?_eq_getElem q]
    exact h.sm _ (List.getElem_mem q)
  · rw [getD_out (by omega)]
    have := h.nn
    omega
theorem Trn.getW {us : List Int} {c : Nat} {b : Int} (h : Trn us c b) (k : Nat) : -b ≤ (0 :: us).getD k 0 ∧ (0 :: us).getD k 0 ≤ b := by
  cases k with
  | zero =>
    have := h.nn
    exact ⟨by show -b ≤ 0; omega, by show 0 ≤ b; omega⟩
  | succ k => exact h.get k
theorem Trn.up {us : List Int} {c : Nat} {b e : Int} (h : Trn us c b) (he : b ≤ e) : Trn us c e := ⟨h.len, fun x hx => by have := h.sm x hx; omega, by have := h.nn; omega⟩
/-! ### shapes as data -/
end Mx
/-! A text among texts, isinstance of a text, the least common multiple. -/
namespace DL
open PySem PySem.Spec PyProof.Rows L2
section
variable {K : PySem.W.Frag} {B : Bs} {G : List Hp} {L : List Addr} {Γ : List Sl} {te : TE} {k : PyData → Prop}
end
end DL
namespace Mx
open PySem PySem.Spec PyProof.Rows L2 DL
end Mx
/-! The least common multiple of two or three numbers; a module's constant tuple. -/
namespace DL
open PySem PySem.Spec PyProof.Rows L2
section
open PySem.W
end
section
variable {K : PySem.W.Frag} {B : Bs} {G : List Hp} {L : List Addr} {Γ : List Sl} {te : TE} {k : PyData → Prop}
/-- a module's constant row -/
def CT (K : PySem.W.Frag) (a : Addr) (d : PyData) : Prop := ∀ H : Hp, Dn K H (.ref a) d
theorem ev_ct {a : Addr} {d : PyData} (h : CT K a d) (hk : k d) : EvP K B G L Γ (tC (.ref a)) k := fun σ H Q E q => q _ _ H (Go.refl E) (h _) hk
end
theorem ct_pair {K : PySem.W.Frag} {a : Addr} {od : Option Addr} {n : Nat} {sl : Array (Option Value)} {i j : Int} {t u : Tok} (h : K.lookup a = some ⟨.type "tuple", od, .seq #[.int i t, .int j u] n, sl⟩) : CT K a (.tuple [.int i, .int j]) := fun H =>
  .tup (xs := [.int i, .int j]) (.inr ⟨_, _, _, h, rfl, rfl, by show 2 ≤ sizeLine; decide, .cons ⟨t, rfl⟩ (.cons ⟨u, rfl⟩ .nil)⟩) (.cons (.int i) (.cons (.int j) .nil))
end DL
/-! Comprehensions whose turns are pairs: [.. for x, y in rows]. -/
namespace DL
open PySem PySem.Spec PyProof.Rows L2
section
variable {K : PySem.W.Frag} {B : Bs} {G : List Hp} {L : List Addr} {Γ : List Sl} {H H' : Hp} {σ : L2.St} {tl te : TE} {tt : TT}
abbrev gTwo (K : PySem.W.Frag) (j m : Nat) : TG := gTup K 2 (gCons (gName j) (gCons (gName m) gNil))
def CompOk2 (K : PySem.W.Frag) (B : Bs) (G : List Hp) (L : List Addr) (Γ : List Sl) (j m : Nat) (tt : TT) (te : TE) (vs : List Nat) (n : Nat) (item : Nat → PyData → PyData → Prop) (J : Nat → List PyData → Prop) : Prop :=
  J 0 [] ∧ ∀ i D x y acc, item i x y → J i acc → i < n → EvT K B G (D :: L) (((wipeG Γ vs).set j (.d x)).set m (.d y)) tt fun b =>
    (b = true → EvP K B G (D :: L) (((wipeG Γ vs).set j (.d x)).set m (.d y)) te fun z => J (i + 1) (acc ++ [z])) ∧ (b = false → J (i + 1) acc)
theorem wipe2 (i j : Nat) : ∀ (σ : L2.St) (x y : V), L2.wipe (((L2.wipe σ [i, j]).set i (some x)).set j (some y)) [i, j] = L2.wipe σ [i, j] := fun σ x y => by
  show (((((σ.set j none).set i none).set i (some x)).set j (some y)).set j none).set i none = (σ.set j none).set i none
  by_cases e : i = j
  · subst e
    simp only [List.set_set]
  · rw [List.set_set, List.set_set, List.set_comm _ _ (Ne.symm e), List.set_set, List.set_comm _ _ e, List.set_set]
end
end DL
/-! What one number of a line does: the table's determinant goes straight in it, and the count changes at most once. -/
namespace Mx
open PySem

/-! ### the table's determinants, by powers of the pace -/
def one0 : Nat → Rat := fun k => if k = 0 then 1 else 0
/-- the determinants of the first i - 1 and of the first i rows -/
def dd2 (J K : Nat → Rat) : Nat → (Nat → Rat) × (Nat → Rat)
  | 0 => (fun _ => 0, one0)
  | i + 1 => ((dd2 J K i).2, fun k => (K i + K (i + 1)) * (dd2 J K i).2 k - J i * sh (dd2 J K i).2 k - K i * K i * (dd2 J K i).1 k)
def dc (J K : Nat → Rat) (i : Nat) : Nat → Rat := (dd2 J K i).2
/-- straight in a number -/
def Af (g : Rat → Nat → Rat) : Prop := ∃ a b : Nat → Rat, ∀ x k, g x k = a k + x * b k
theorem Af.at_ {g : Rat → Nat → Rat} (h : Af g) (x : Rat) (k : Nat) : g x k = g 0 k + x * (g 1 k - g 0 k) := by
  obtain ⟨a, b, e⟩ := h
  rw [e, e, e]
  grind
def upd1 (J : Nat → Rat) (i : Nat) (x : Rat) : Nat → Rat := fun j => if j = i then x else J j
theorem Af.step {c b : Rat → Nat → Rat} (hc : Af c) (hb : Af b) (u v w : Rat) : Af fun x k => u * c x k - v * sh (c x) k - w * b x k := by
  obtain ⟨c1, c2, ec⟩ := hc
  obtain ⟨b1, b2, eb⟩ := hb
  refine ⟨fun k => u * c1 k - v * sh c1 k - w * b1 k, fun k => u * c2 k - v * sh c2 k - w * b2 k, fun x k => ?_⟩
  have hs : sh (c x) k = sh c1 k + x * sh c2 k := by
    cases k with
    | zero => show (0 : Rat) = 0 + x * 0; grind
    | succ k => exact ec x k
  show u * c x k - v * sh (c x) k - w * b x k = _
  rw [hs, ec, eb]
  grind
/-! ### two lines at one pace -/
/-- the torques' and angles' cross product -/
def wr (J K J' K' : Nat → Rat) (p : Rat) (i : Nat) : Rat := ya J' K' p i * xa J K p i - ya J K p i * xa J' K' p i
/-! ### parity -/
theorem alt_two {a b : Nat} (h : 0 < alt a * alt b) : a % 2 = b % 2 := by
  unfold alt at h
  split at h <;> split at h <;> first | omega | exact absurd h (by decide +kernel)
theorem alt_not {a b : Nat} (h : alt a * alt b < 0) : a % 2 ≠ b % 2 := by
  unfold alt at h
  split at h <;> split at h <;> first | omega | exact absurd h (by decide +kernel)
end Mx
/-! The counts on both sides of the turning amount. -/
namespace Mx
open PySem
/-- counts, ends and last angles by the amount in a slot; up: a greater amount makes slower -/
structure Fam (c : Rat → Nat) (E X : Rat → Rat) (up : Bool) : Prop where
  par : ∀ x, 0 < x → E x ≠ 0 → 0 < alt (c x) * E x
  last : ∀ x, 0 < x → E x = 0 → 0 < alt (c x) * X x
  mono : ∀ x y, 0 < x → x ≤ y → (up = true → c x ≤ c y ∧ c y ≤ c x + 1) ∧ (up = false → c y ≤ c x ∧ c x ≤ c y + 1)
  wr : ∀ x y, 0 < x → x < y → (up = true → E y * X x - E x * X y ≤ 0) ∧ (up = false → 0 ≤ E y * X x - E x * X y)
  both : ∀ x y, 0 < x → 0 < y → x ≠ y → E x = 0 → E y = 0 → ∀ u v, 0 < u → 0 < v → c u = c v
theorem mul_pos4 {a b x y : Rat} (h1 : 0 < a * x) (h2 : 0 < b * y) (h : 0 < x * y) : 0 < a * b := by
  have h3 := Rat.mul_pos h1 h2
  rcases Rat.le_total (a := a * b) (b := 0) with q | q
  · exfalso
    have : a * x * (b * y) = (a * b) * (x * y) := by grind
    rw [this] at h3
    have : (a * b) * (x * y) ≤ 0 := by
      have := Rat.mul_nonneg (show (0 : Rat) ≤ -(a * b) by grind) (Rat.le_of_lt h)
      grind
    grind
  · have : a * b ≠ 0 := fun z => by
      have e : a * x * (b * y) = (a * b) * (x * y) := by grind
      rw [e, z] at h3
      grind
    grind
theorem mul_neg4 {a b x y : Rat} (h1 : 0 < a * x) (h2 : 0 < b * y) (h : x * y < 0) : a * b < 0 := by
  have := mul_pos4 (a := a) (b := -b) (x := x) (y := -y) h1 (by grind) (by grind)
  grind
section
variable {c : Rat → Nat} {E X : Rat → Rat} {up : Bool} {a b : Rat} {m : Rat → Rat}
theorem Fam.same (F : Fam c E X up) {x y : Rat} (hx : 0 < x) (hy : 0 < y) (h : 0 < E x * E y) : c x = c y := by
  have ex : E x ≠ 0 := fun z => by rw [z] at h; grind
  have ey : E y ≠ 0 := fun z => by rw [z] at h; grind
  have p := alt_two (mul_pos4 (F.par x hx ex) (F.par y hy ey) h)
  rcases Rat.le_total (a := x) (b := y) with q | q
  · obtain ⟨m1, m2⟩ := F.mono x y hx q
    cases up with
    | true => have := m1 rfl; omega
    | false => have := m2 rfl; omega
  · obtain ⟨m1, m2⟩ := F.mono y x hy q
    cases up with
    | true => have := m1 rfl; omega
    | false => have := m2 rfl; omega
/-- at the turning amount the count is the lesser one -/
theorem Fam.turn (F : Fam c E X up) (hm : ∀ x, 0 < x → 0 < m x) (hE : ∀ x, 0 < x → E x * m x = a + x * b) (hb : b ≠ 0) {t : Rat} (et : t = -a / b) (ht : 0 < t) :
    (up = true → (∀ x, 0 < x → x ≤ t → c x = c t) ∧ ∀ x, t < x → c x = c t + 1) ∧ (up = false → (∀ x, 0 < x → x < t → c x = c t + 1) ∧ ∀ x, t ≤ x → c x = c t) := by
  have e : t * b = -a := by rw [et]; grind
  have z : E t = 0 := by
    have := hE t ht
    have h0 := hm t ht
    have q : E t * m t = 0 := by grind
    rw [Rat.mul_comm] at q
    exact prod_zero (by grind) q
  have nz : ∀ x, 0 < x → x ≠ t → E x ≠ 0 := fun x hx hne q => by
    have := hE x hx
    rw [q] at this
    have : (x - t) * b = 0 := by grind
    rw [Rat.mul_comm] at this
    have := prod_zero hb this
    grind
  have L := F.last t ht z
  have Xt : X t ≠ 0 := fun q => by rw [q] at L; grind
  refine ⟨fun hu => ?_, fun hu => ?_⟩
  · have above : ∀ x, t < x → c x = c t + 1 := fun x hx => by
      have x0 : 0 < x := by grind
      have w := (F.wr t x ht hx).1 hu
      rw [z] at w
      have n := nz x x0 (by grind)
      have pe := F.par x x0 n
      have w2 : E x * X t < 0 := by
        have : E x * X t ≠ 0 := fun q => Xt (prod_zero n q)
        grind
      have := alt_not (mul_neg4 pe L w2)
      have := (F.mono t x ht (by grind)).1 hu
      omega
    refine ⟨fun x hx hxt => ?_, above⟩
    have := (F.mono x t hx hxt).1 hu
    have h2 := above (t + 1) (by grind)
    have := (F.mono x (t + 1) hx (by grind)).1 hu
    omega
  · have below : ∀ x, 0 < x → x < t → c x = c t + 1 := fun x x0 hx => by
      have w := (F.wr x t x0 hx).2 hu
      rw [z] at w
      have n := nz x x0 (by grind)
      have pe := F.par x x0 n
      have w2 : E x * X t < 0 := by
        have : E x * X t ≠ 0 := fun q => Xt (prod_zero n q)
        grind
      have := alt_not (mul_neg4 pe L w2)
      have := (F.mono x t x0 (by grind)).2 hu
      omega
    refine ⟨below, fun x hx => ?_⟩
    have x0 : 0 < x := by grind
    have := (F.mono t x ht hx).2 hu
    have h0 : 0 < t / 2 := by grind
    have h2 := below (t / 2) h0 (by grind)
    have := (F.mono (t / 2) x h0 (by grind)).2 hu
    omega
end
/-! ### a line's slot -/
def sJ (J : Nat → Rat) (s : Bool) (i : Nat) (x : Rat) : Nat → Rat := if s then upd1 J i x else J
def sK (K : Nat → Rat) (s : Bool) (i : Nat) (x : Rat) : Nat → Rat := if s then K else upd1 K i x
/-- a line's numbers -/
structure Num (J K : Nat → Rat) (n : Nat) : Prop where
  j : ∀ i, i ≤ n → 0 < J i
  k : ∀ i, 0 < i → i ≤ n → 0 < K i
  k0 : 0 ≤ K 0
  kn : 0 ≤ K (n + 1)
def inner (s : Bool) (i n : Nat) : Prop := s = false ∧ 0 < i ∧ i ≤ n
instance (s : Bool) (i n : Nat) : Decidable (inner s i n) := by unfold inner; infer_instance
theorem Num.put {J K : Nat → Rat} {n : Nat} (h : Num J K n) {s : Bool} {i : Nat} {x : Rat} (hx : 0 < x) : Num (sJ J s i x) (sK K s i x) n := by
  cases s with
  | true =>
    refine ⟨fun j hj => ?_, h.k, h.k0, h.kn⟩
    show 0 < upd1 J i x j
    unfold upd1
    split
    · exact hx
    · exact h.j j hj
  | false =>
    have g : ∀ j, 0 ≤ K j → 0 ≤ upd1 K i x j := fun j hj => by
      unfold upd1
      split
      · exact Rat.le_of_lt hx
      · exact hj
    refine ⟨h.j, fun j a b => ?_, g 0 h.k0, g (n + 1) h.kn⟩
    show 0 < upd1 K i x j
    unfold upd1
    split
    · exact hx
    · exact h.k j a b
/-! ### the end by the amount -/
/-- the determinant with the amount x, by powers of the pace -/
def dS (J K : Nat → Rat) (s : Bool) (i n : Nat) (x : Rat) : Nat → Rat := dc (sJ J s i x) (sK K s i x) (n + 1)
def bS (J K : Nat → Rat) (s : Bool) (i n : Nat) (p : Rat) : Rat := fev (fun k => dS J K s i n 1 k - dS J K s i n 0 k) p (n + 2)
end Mx
/-! Rows of whole numbers: shifted, trimmed, their sizes; a line's table. -/
namespace Mx
open PySem
/-- times the pace; nothing stays nothing -/
def rsd (u : List Int) : List Int := if u = [] then [] else 0 :: u
theorem rsd_ne {u : List Int} (h : u ≠ []) : rsd u = 0 :: u := if_neg h
theorem rsd_nil : rsd [] = [] := if_pos rfl
theorem rsd_get (u : List Int) : (rsd u).getD 0 0 = 0 ∧ ∀ k, (rsd u).getD (k + 1) 0 = u.getD k 0 := by
  by_cases h : u = []
  · subst h
    rw [rsd_nil]
    exact ⟨rfl, fun k => rfl⟩
  · rw [rsd_ne h]
    exact ⟨rfl, fun k => by rw [List.getD_cons_succ]⟩
theorem trim_split (u : List Int) : ∃ m, u = trim u ++ List.replicate m 0 := by
  have e : u.reverse = u.reverse.takeWhile (· == 0) ++ u.reverse.dropWhile (· == 0) := (List.takeWhile_append_dropWhile ..).symm
  refine ⟨(u.reverse.takeWhile (· == 0)).length, ?_⟩
  have z : u.reverse.takeWhile (· == 0) = List.replicate (u.reverse.takeWhile (· == 0)).length 0 := by
    apply List.eq_replicate_iff.mpr
    refine ⟨rfl, fun b hb => ?_⟩
    have := List.all_takeWhile (l := u.reverse) (p := (· == 0))
    have := List.all_eq_true.mp this b hb
    simpa using this
  have e2 := congrArg List.reverse e
  rw [List.reverse_reverse, List.reverse_append] at e2
  unfold trim
  generalize (u.reverse.takeWhile (· == 0)).length = m at z
  rw [z, List.reverse_replicate] at e2
  exact e2
theorem trim_get (u : List Int) (k : Nat) : (trim u).getD k 0 = u.getD k 0 := by
  obtain ⟨m, e⟩ := trim_split u
  conv => rhs; rw [e]
  by_cases h : k < (trim u).length
  · rw [List.getD_eq_getElem?_getD, List.getD_eq_getElem?_getD, List.getElem?_append_left h]
  · rw [getD_out (by omega), List.getD_eq_getElem?_getD, List.getElem?_append_right (by omega), List.getElem?_replicate]
    split <;> rfl
theorem trim_len (u : List Int) : (trim u).length ≤ u.length := by
  obtain ⟨m, e⟩ := trim_split u
  have := congrArg List.length e
  rw [List.length_append] at this
  omega
theorem dropWhile_head {p : Int → Bool} : ∀ l : List Int, ∀ x, (l.dropWhile p).head? = some x → p x = false
  | [], x, h => by simp at h
  | y :: ys, x, h => by
    rw [List.dropWhile_cons] at h
    split at h
    · exact dropWhile_head ys x h
    · rename_i q
      simp at h
      rw [← h]
      simpa using q
theorem trim_last (u : List Int) : (trim u).getLast? ≠ some 0 := by
  intro z
  unfold trim at z
  rw [List.getLast?_reverse] at z
  have := dropWhile_head _ _ z
  simp at this
/-- the same numbers at all places, nothing but the lead last: the same row -/
theorem row_ext {u v : List Int} (hu : u.getLast? ≠ some 0) (hv : v.getLast? ≠ some 0) (h : ∀ k, u.getD k 0 = v.getD k 0) : u = v := by
  have aux : ∀ {u v : List Int}, u.getLast? ≠ some 0 → (∀ k, u.getD k 0 = v.getD k 0) → u.length ≤ v.length := fun {u v} hu h => by
    rcases Nat.lt_or_ge v.length u.length with q | q
    · exfalso
      apply hu
      rw [List.getLast?_eq_getElem?, List.getElem?_eq_getElem (by omega)]
      have := h (u.length - 1)
      rw [getD_out (u := v) (by omega), List.getD_eq_getElem?_getD, List.getElem?_eq_getElem (by omega)] at this
      exact congrArg some this
    · exact q
  have l := Nat.le_antisymm (aux hu h) (aux hv fun k => (h k).symm)
  apply List.ext_getElem l
  intro k h1 h2
  have := h k
  rw [List.getD_eq_getElem?_getD, List.getD_eq_getElem?_getD, List.getElem?_eq_getElem h1, List.getElem?_eq_getElem h2] at this
  exact this

/-! ### sizes by sums -/
def nr (f : Nat → Int) : Nat → Nat
  | 0 => 0
  | n + 1 => nr f n + (f n).natAbs
def nb (u : List Int) (c : Nat) : Prop := ∀ n, nr (fun k => u.getD k 0) n ≤ c
theorem nr_congr {f g : Nat → Int} (h : ∀ k, f k = g k) : ∀ n, nr f n = nr g n
  | 0 => rfl
  | n + 1 => by show nr f n + _ = nr g n + _; rw [nr_congr h n, h n]
theorem nr_lin {f g : Nat → Int} {a b : Int} : ∀ n, nr (fun k => a * f k + b * g k) n ≤ a.natAbs * nr f n + b.natAbs * nr g n
  | 0 => Nat.zero_le _
  | n + 1 => by
    show nr (fun k => a * f k + b * g k) n + (a * f n + b * g n).natAbs ≤ a.natAbs * (nr f n + (f n).natAbs) + b.natAbs * (nr g n + (g n).natAbs)
    have := nr_lin (f := f) (g := g) (a := a) (b := b) n
    have h := Int.natAbs_add_le (a * f n) (b * g n)
    rw [Int.natAbs_mul, Int.natAbs_mul] at h
    rw [Nat.mul_add, Nat.mul_add]
    omega
theorem nb.comb {u v : List Int} {a b : Int} {c d : Nat} (hu : nb u c) (hv : nb v d) : nb (comb a u b v) (a.natAbs * c + b.natAbs * d) := fun n => by
  rw [nr_congr (fun k => comb_get a u b v k) n]
  refine Nat.le_trans (nr_lin n) ?_
  have := Nat.mul_le_mul_left a.natAbs (hu n)
  have := Nat.mul_le_mul_left b.natAbs (hv n)
  omega
theorem nb.trim {u : List Int} {c : Nat} (h : nb u c) : nb (trim u) c := fun n => by
  rw [nr_congr (fun k => trim_get u k) n]
  exact h n
theorem nr_head {f : Nat → Int} : ∀ n, nr f (n + 1) = (f 0).natAbs + nr (fun k => f (k + 1)) n
  | 0 => by show 0 + (f 0).natAbs = (f 0).natAbs + 0; omega
  | n + 1 => by
    show nr f (n + 1) + (f (n + 1)).natAbs = (f 0).natAbs + (nr (fun k => f (k + 1)) n + (f (n + 1)).natAbs)
    rw [nr_head n]
    omega
theorem nb.rsd {u : List Int} {c : Nat} (h : nb u c) : nb (rsd u) c := fun n => by
  obtain ⟨a, b⟩ := rsd_get u
  cases n with
  | zero => exact Nat.zero_le _
  | succ n =>
    rw [nr_head, a, nr_congr b n]
    have := h n
    simpa using this
theorem nb.up {u : List Int} {c d : Nat} (h : nb u c) (q : c ≤ d) : nb u d := fun n => Nat.le_trans (h n) q
theorem nb.get {u : List Int} {c : Nat} (h : nb u c) (k : Nat) : (u.getD k 0).natAbs ≤ c := by
  have := h (k + 1)
  have e : nr (fun k => u.getD k 0) (k + 1) = nr (fun k => u.getD k 0) k + (u.getD k 0).natAbs := rfl
  omega
theorem nb.bd {u : List Int} {c e : Nat} (h : nb u c) (q : c < 2 ^ e) : bd u e := bd.of_get fun k => Nat.lt_of_le_of_lt (h.get k) q
theorem nb.tail {x : Int} {xs : List Int} {c : Nat} (h : nb (x :: xs) c) : ∃ d, nb xs d ∧ x.natAbs + d ≤ c := by
  refine ⟨c - x.natAbs, fun n => ?_, ?_⟩
  · have := h (n + 1)
    rw [nr_head] at this
    have e : nr (fun k => (x :: xs).getD (k + 1) 0) n = nr (fun k => xs.getD k 0) n := nr_congr (fun k => by rw [List.getD_cons_succ]) n
    rw [e] at this
    have e2 : ((x :: xs).getD 0 0) = x := rfl
    rw [e2] at this
    omega
  · have := h.get 0
    have e2 : ((x :: xs).getD 0 0) = x := rfl
    rw [e2] at this
    omega
/-! ### a row at a pace -/
def ev (u : List Int) (x : Rat) : Rat := fev (fun k => ((u.getD k 0 : Int) : Rat)) x u.length
/-! ### the table of a line -/
structure Tb (dd ss : List Fr) : Prop where
  c1 : 1 ≤ dd.length
  c5 : dd.length ≤ 5
  len : ss.length = dd.length + 1
  dok : ∀ x ∈ dd, FOk x ∧ 0 ≤ x.1 ∧ x.1 < 64 ∧ x.2 < 64
  sok : ∀ x ∈ ss, FOk x ∧ 0 ≤ x.1 ∧ x.1 < 64 ∧ x.2 < 64
theorem Tb.d_get {dd ss : List Fr} (h : Tb dd ss) {i : Nat} (hi : i < dd.length) : ∃ x, dd[i]? = some x ∧ dd.getD i (0, 1) = x ∧ FOk x ∧ 0 ≤ x.1 ∧ x.1 < 64 ∧ x.2 < 64 := by
  refine ⟨dd[i], List.getElem?_eq_getElem hi, ?_, h.dok _ (List.getElem_mem hi)⟩
  rw [List.getD_eq_getElem?_getD, List.getElem?_eq_getElem hi]
  rfl
theorem Tb.s_get {dd ss : List Fr} (h : Tb dd ss) {i : Nat} (hi : i < ss.length) : ∃ x, ss[i]? = some x ∧ ss.getD i (0, 1) = x ∧ FOk x ∧ 0 ≤ x.1 ∧ x.1 < 64 ∧ x.2 < 64 := by
  refine ⟨ss[i], List.getElem?_eq_getElem hi, ?_, h.sok _ (List.getElem_mem hi)⟩
  rw [List.getD_eq_getElem?_getD, List.getElem?_eq_getElem hi]
  rfl
end Mx
/-! Truth values compared. -/
namespace DL
open PySem PySem.Spec PyProof.Rows L2
section
variable {K : PySem.W.Frag} {B : Bs} {G : List Hp} {L : List Addr} {Γ : List Sl} {H H' H2 : Hp} {σ : L2.St}
variable {te ta tb tc : TE} {tt tu : TT} {tr : TA} {k : PyData → Prop} {x y : PyData}
end
end DL
/-! The least common multiple of two numbers; in, not in, index over lists of data. -/
namespace DL
open PySem PySem.Spec PyProof.Rows L2
section
open PySem.W
theorem args_lcm2 (a b : Value) : argsOk "math.lcm" ⟨[a, b], []⟩ := by unfold argsOk; kernel_rfl
theorem run_lcm2 (a : Int) (t : Tok) (b : Int) (u : Tok) (hc0 : ¬(max 1 a.natAbs).log2 / 30 + 1 > 450) (hc1 : ¬(max a.natAbs b.natAbs).log2 / 30 + 1 > 450)
    (hsz : ((((Nat.lcm 1 a.natAbs).lcm b.natAbs : Nat) : Int)).natAbs.log2 < bitsLine) :
    Gives (Builtin.«math.lcm» ⟨[.int a t, .int b u], []⟩) (.int ((((Nat.lcm 1 a.natAbs).lcm b.natAbs : Nat) : Int))) :=
  .of_wp fun M A E s Q h => by
    obtain ⟨hp, g, d, tk, os⟩ := s
    wp_walk
    refine wpAny_ite_false (decide_eq_false (Nat.not_le.mpr hsz)) ?_
    wp_walk
    exact ⟨_, rfl, h⟩
theorem call_lcm2 {prog : Program} {w : World} {A : Around} {E : Value → Shared → Prop} {s : Shared} {Q : Value → Shared → Prop} {a b : Int} {t u : Tok}
    (ha : a.natAbs < 2 ^ 1000) (hb : b.natAbs < 2 ^ 1000) (h : Q (.int ((a.natAbs.lcm b.natAbs : Nat) : Int) s.toks) { s with toks := s.toks + 1 }) :
    wpAny (model prog w) A (call (.builtin "math.lcm") [.int a t, .int b u]) Q E s := by
  have l1 : ∀ {n k : Nat}, n < 2 ^ k → 0 < k → n.log2 < k := fun {n k} h k0 => by
    by_cases h0 : n = 0
    · subst h0
      rw [Nat.log2_zero]
      exact k0
    · exact (Nat.log2_lt h0).mpr h
  have e1 : Nat.lcm 1 a.natAbs = a.natAbs := by simp [Nat.lcm]
  have mx : ∀ {m n k : Nat}, m < 2 ^ k → n < 2 ^ k → max m n < 2 ^ k := fun {m n k} h1 h2 => by
    rcases Nat.le_total m n with q | q
    · rw [Nat.max_eq_right q]; exact h2
    · rw [Nat.max_eq_left q]; exact h1
  have one : 1 < 2 ^ 1000 := Nat.one_lt_two_pow (by decide)
  have lb : a.natAbs.lcm b.natAbs < 2 ^ 2000 := by
    refine Nat.lt_of_le_of_lt (mc_lcm_le _ _) ?_
    rw [show 2000 = 1000 + 1000 by rfl, Nat.pow_add]
    exact Nat.mul_lt_mul'' ha hb
  have q0 := l1 (mx one ha) (by decide)
  have q1 := l1 (mx ha hb) (by decide)
  have q3 := l1 lb (by decide)
  have g := run_lcm2 a t b u (by omega) (by omega) (by
    rw [e1, Int.natAbs_natCast]
    exact Nat.lt_of_lt_of_le q3 (by decide))
  rw [e1] at g
  exact call_function_meets MGF.kind_lcm MGF.plain_lcm MGF.entry_lcm (args_lcm2 _ _) g.meets h
end
def rLcm2 : List V → Hp → VK → Prop := fun vs H Q => ∃ a b : Int, vs = [.int a, .int b] ∧ a.natAbs < 2 ^ 1000 ∧ b.natAbs < 2 ^ 1000 ∧ Q (.int ((a.natAbs.lcm b.natAbs : Nat) : Int)) H
theorem cr_lcm2 {X : Cx} : CallR X (.builtin "math.lcm") rLcm2 := by
  intro pins s σ H vs us Q I r h
  obtain ⟨a, b, rfl, ha, hb, q⟩ := h
  cases r with
  | cons r1 r =>
    cases r with
    | cons r2 r =>
      cases r
      obtain ⟨t, rfl⟩ := r1
      obtain ⟨u, rfl⟩ := r2
      exact call_lcm2 ha hb ⟨.int _, H, I.tok _, ⟨_, rfl⟩, q⟩
section
variable {K : PySem.W.Frag} {B : Bs} {G : List Hp} {L : List Addr} {Γ : List Sl} {te tf : TE} {k : PyData → Prop}
theorem cok_lcm2 {a b : Int} (ha : a.natAbs < 2 ^ 1000) (hb : b.natAbs < 2 ^ 1000) (hk : k (.int ((a.natAbs.lcm b.natAbs : Nat) : Int))) : COk K B G L Γ rLcm2 [.int a, .int b] k := fun σ H Q vs E d1 q => by
  cases d1 with
  | cons h1 h2 =>
    cases h2 with
    | cons h2 h3 =>
      cases h3
      cases h1
      cases h2
      exact ⟨a, b, rfl, ha, hb, q _ _ H (Go.refl E) (.int _) hk⟩
end
end DL
/-! Polynomials told by their values. -/
namespace Px
open PySem DL Mx
def pe : List Rat → Rat → Rat
  | [], _ => 0
  | a :: u, x => a + x * pe u x
def sdv (r : Rat) : List Rat → List Rat
  | [] => []
  | [_] => []
  | _ :: b :: u => pe (b :: u) r :: sdv r (b :: u)
theorem sdv_len (r : Rat) : ∀ u : List Rat, (sdv r u).length = u.length - 1
  | [] => rfl
  | [_] => rfl
  | _ :: b :: u => by
    show (sdv r (b :: u)).length + 1 = _
    rw [sdv_len r (b :: u)]
    rfl
theorem sdv_ev (r x : Rat) : ∀ u : List Rat, pe u x = pe u r + (x - r) * pe (sdv r u) x
  | [] => by
    show (0 : Rat) = 0 + (x - r) * 0
    grind
  | [a] => by
    show a + x * 0 = a + r * 0 + (x - r) * 0
    grind
  | a :: b :: u => by
    have ih := sdv_ev r x (b :: u)
    show a + x * pe (b :: u) x = a + r * pe (b :: u) r + (x - r) * (pe (b :: u) r + x * pe (sdv r (b :: u)) x)
    rw [ih]
    grind
theorem sdv_zero (r : Rat) : ∀ u : List Rat, (∀ y ∈ sdv r u, y = 0) → pe u r = 0 → ∀ y ∈ u, y = 0
  | [], _, _ => fun y hy => by simp at hy
  | [a], _, h => fun y hy => by
    have : a + r * 0 = 0 := h
    simp at hy
    rw [hy]
    grind
  | a :: b :: u, h, h2 => by
    have h1 : pe (b :: u) r = 0 := h _ (List.mem_cons_self ..)
    have ih := sdv_zero r (b :: u) (fun y hy => h y (List.mem_cons_of_mem _ hy)) h1
    have h2 : a + r * pe (b :: u) r = 0 := h2
    intro y hy
    rcases List.mem_cons.mp hy with rfl | hy
    · rw [h1] at h2
      grind
    · exact ih y hy
theorem pe_zero : ∀ (n : Nat) (u : List Rat) (m : Nat), u.length ≤ n → (∀ k : Nat, m ≤ k → pe u (k : Rat) = 0) → ∀ y ∈ u, y = 0
  | 0, u, m, hl, h => by
    obtain rfl : u = [] := List.length_eq_zero_iff.mp (by omega)
    intro y hy
    simp at hy
  | n + 1, u, m, hl, h => by
    have h0 := h m (Nat.le_refl _)
    refine sdv_zero (m : Rat) u (pe_zero n _ (m + 1) (by rw [sdv_len]; omega) fun k hk => ?_) h0
    have h1 := h k (by omega)
    rw [sdv_ev (m : Rat) (k : Rat) u, h0] at h1
    have ne : (k : Rat) - (m : Rat) ≠ 0 := fun z => by
      have : ((k : Nat) : Rat) = ((m : Nat) : Rat) := by grind
      have := Rat.natCast_inj.mp this
      omega
    have h1 : ((k : Rat) - (m : Rat)) * pe (sdv (m : Rat) u) (k : Rat) = 0 := by grind
    rcases Rat.mul_eq_zero.mp h1 with z | z
    · exact absurd z ne
    · exact z
theorem pe_get {u : List Rat} (h : ∀ x, pe u x = 0) (k : Nat) : u.getD k 0 = 0 := by
  rw [List.getD_eq_getElem?_getD]
  cases e : u[k]? with
  | none => rfl
  | some y => exact pe_zero u.length u 0 (Nat.le_refl _) (fun k _ => h _) y (List.mem_of_getElem? e)
theorem pe_ext : ∀ {u v : List Rat}, (∀ k, u.getD k 0 = v.getD k 0) → ∀ x, pe u x = pe v x
  | [], [], _, _ => rfl
  | a :: u, [], h, x => by
    have h0 : a = 0 := h 0
    have ih := pe_ext (u := u) (v := []) (fun k => by have := h (k + 1); simpa using this) x
    show a + x * pe u x = 0
    rw [ih, h0]
    show (0 : Rat) + x * 0 = 0
    grind
  | [], b :: v, h, x => by
    have h0 : 0 = b := h 0
    have ih := pe_ext (u := []) (v := v) (fun k => by have := h (k + 1); simpa using this) x
    show 0 = b + x * pe v x
    rw [← ih, ← h0]
    show 0 = (0 : Rat) + x * 0
    grind
  | a :: u, b :: v, h, x => by
    have h0 : a = b := h 0
    have ih := pe_ext (u := u) (v := v) (fun k => by have := h (k + 1); simpa using this) x
    show a + x * pe u x = b + x * pe v x
    rw [ih, h0]
def lin (a : Rat) (u : List Rat) (b : Rat) (v : List Rat) : List Rat := (List.range (max u.length v.length)).map fun k => a * u.getD k 0 + b * v.getD k 0
theorem get_out {α : Type} {u : List α} {k : Nat} {z : α} (h : u.length ≤ k) : u.getD k z = z := by
  rw [List.getD_eq_getElem?_getD, List.getElem?_eq_none h]
  rfl
theorem lin_get (a : Rat) (u : List Rat) (b : Rat) (v : List Rat) (k : Nat) : (lin a u b v).getD k 0 = a * u.getD k 0 + b * v.getD k 0 := by
  unfold lin
  by_cases h : k < max u.length v.length
  · rw [List.getD_eq_getElem?_getD, List.getElem?_map, List.getElem?_range h]
    rfl
  · rw [get_out (by simp; omega), get_out (u := u) (by omega), get_out (u := v) (by omega)]
    grind
theorem pe_tail (a : Rat) (u : List Rat) (x : Rat) : pe (a :: u) x = a + x * pe u x := rfl
theorem pe_lin' (a b x : Rat) : ∀ (n : Nat) (u v w : List Rat), u.length + v.length ≤ n → (∀ k, w.getD k 0 = a * u.getD k 0 + b * v.getD k 0) → pe w x = a * pe u x + b * pe v x
  | 0, u, v, w, hl, h => by
    obtain rfl : u = [] := List.length_eq_zero_iff.mp (by omega)
    obtain rfl : v = [] := List.length_eq_zero_iff.mp (by omega)
    rw [pe_ext (v := []) (fun k => by rw [h k]; show a * 0 + b * 0 = (0 : Rat); grind)]
    show (0 : Rat) = a * 0 + b * 0
    grind
  | n + 1, u, v, w, hl, h => by
    have ew : pe w x = pe ((a * u.getD 0 0 + b * v.getD 0 0) :: w.tail) x := pe_ext (fun k => by
      cases k with
      | zero => rw [h 0]; rfl
      | succ k =>
        cases w with
        | nil => rfl
        | cons c w => rfl) x
    have ht : ∀ (r : List Rat) (k : Nat), r.tail.getD k 0 = r.getD (k + 1) 0 := fun r k => by
      cases r with
      | nil => rfl
      | cons c r => rfl
    have eu : ∀ r : List Rat, pe r x = r.getD 0 0 + x * pe r.tail x := fun r => by
      cases r with
      | nil => show (0 : Rat) = 0 + x * 0; grind
      | cons c r => rfl
    by_cases z : u.length + v.length = 0
    · exact pe_lin' a b x n u v w (by omega) h
    · have ih := pe_lin' a b x n u.tail v.tail w.tail (by rw [List.length_tail, List.length_tail]; omega) (fun k => by rw [ht, ht, ht]; exact h (k + 1))
      rw [ew, pe_tail, ih, eu u, eu v]
      grind
theorem pe_lin {a b : Rat} {u v w : List Rat} (h : ∀ k, w.getD k 0 = a * u.getD k 0 + b * v.getD k 0) (x : Rat) : pe w x = a * pe u x + b * pe v x := pe_lin' a b x _ u v w (Nat.le_refl _) h
/-- two rows with values in proportion -/
theorem pe_prop {c : Rat} {u v : List Rat} (h : ∀ x, pe u x = c * pe v x) (k : Nat) : u.getD k 0 = c * v.getD k 0 := by
  have z := pe_get (u := lin 1 u (-c) v) (fun x => by
    rw [pe_lin (lin_get 1 u (-c) v), h x]
    grind) k
  rw [lin_get] at z
  grind
theorem pe_set (z x : Rat) : ∀ (u : List Rat) (k : Nat), k < u.length → pe (u.set k (u.getD k 0 + z)) x = pe u x + z * x ^ k
  | [], k, h => by simp at h
  | a :: u, 0, _ => by
    show a + z + x * pe u x = a + x * pe u x + z * x ^ 0
    rw [Rat.pow_zero]
    grind
  | a :: u, k + 1, h => by
    have ih := pe_set z x u k (by simpa using h)
    show a + x * pe (u.set k (u.getD k 0 + z)) x = a + x * pe u x + z * x ^ (k + 1)
    rw [ih, Rat.pow_succ]
    grind
theorem pe_take (x : Rat) : ∀ (u : List Rat) (k : Nat), k < u.length → pe (u.take (k + 1)) x = pe (u.take k) x + u.getD k 0 * x ^ k
  | [], k, h => by simp at h
  | a :: u, 0, _ => by
    show a + x * 0 = 0 + a * x ^ 0
    rw [Rat.pow_zero]
    grind
  | a :: u, k + 1, h => by
    have ih := pe_take x u k (by simpa using h)
    show a + x * pe (u.take (k + 1)) x = a + x * pe (u.take k) x + u.getD k 0 * x ^ (k + 1)
    rw [ih, Rat.pow_succ]
    grind
theorem pe_zeros (x : Rat) : ∀ n, pe (List.replicate n 0) x = 0
  | 0 => rfl
  | n + 1 => by
    show 0 + x * pe (List.replicate n 0) x = 0
    rw [pe_zeros x n]
    grind

theorem rpow_add (a : Rat) (m : Nat) : ∀ n : Nat, a ^ (m + n) = a ^ m * a ^ n
  | 0 => by rw [Nat.add_zero, Rat.pow_zero]; grind
  | n + 1 => by
    rw [← Nat.add_assoc, Rat.pow_succ, rpow_add a m n, Rat.pow_succ]
    grind
/-! ### rows of whole numbers -/
def ri (u : List Int) : List Rat := u.map fun z : Int => (z : Rat)
def pI (u : List Int) (x : Rat) : Rat := pe (ri u) x
theorem ri_get (u : List Int) (k : Nat) : (ri u).getD k 0 = ((u.getD k 0 : Int) : Rat) := by
  unfold ri
  rw [List.getD_eq_getElem?_getD, List.getD_eq_getElem?_getD, List.getElem?_map]
  cases u[k]? <;> rfl
theorem pI_trim (u : List Int) (x : Rat) : pI (trim u) x = pI u x := pe_ext (fun k => by rw [ri_get, ri_get, trim_get]) x
theorem pI_comb (a : Int) (u : List Int) (b : Int) (v : List Int) (x : Rat) : pI (comb a u b v) x = (a : Rat) * pI u x + (b : Rat) * pI v x :=
  pe_lin (fun k => by rw [ri_get, ri_get, ri_get, comb_get, Rat.intCast_add, Rat.intCast_mul, Rat.intCast_mul]) x
def n1 : List Int → Nat
  | [] => 0
  | a :: u => a.natAbs + n1 u
theorem n1_mem : ∀ {u : List Int} {x : Int}, x ∈ u → x.natAbs ≤ n1 u
  | a :: u, x, h => by
    rcases List.mem_cons.mp h with rfl | h
    · show _ ≤ _ + n1 u
      omega
    · have := n1_mem h
      show _ ≤ a.natAbs + n1 u
      omega
theorem n1_get (u : List Int) (k : Nat) : (u.getD k 0).natAbs ≤ n1 u := by
  rw [List.getD_eq_getElem?_getD]
  cases e : u[k]? with
  | none => exact Nat.zero_le _
  | some y => exact n1_mem (List.mem_of_getElem? e)
theorem n1_set (z : Int) : ∀ (u : List Int) (k : Nat), n1 (u.set k (u.getD k 0 + z)) ≤ n1 u + z.natAbs
  | [], k => by simp [n1]
  | a :: u, 0 => by
    show (a + z).natAbs + n1 u ≤ a.natAbs + n1 u + z.natAbs
    omega
  | a :: u, k + 1 => by
    have ih := n1_set z u k
    show a.natAbs + n1 (u.set k (u.getD k 0 + z)) ≤ a.natAbs + n1 u + z.natAbs
    omega
theorem n1_zeros : ∀ n, n1 (List.replicate n 0) = 0
  | 0 => rfl
  | n + 1 => by
    show (0 : Int).natAbs + n1 (List.replicate n 0) = 0
    rw [n1_zeros n]
    rfl
theorem n1_take : ∀ (u : List Int) (k : Nat), k < u.length → n1 (u.take (k + 1)) = n1 (u.take k) + (u.getD k 0).natAbs
  | [], k, h => by simp at h
  | a :: u, 0, _ => by
    show a.natAbs + 0 = 0 + a.natAbs
    omega
  | a :: u, k + 1, h => by
    have ih := n1_take u k (by simpa using h)
    show a.natAbs + n1 (u.take (k + 1)) = a.natAbs + n1 (u.take k) + (u.getD k 0).natAbs
    omega
theorem n1_takele : ∀ (u : List Int) (k : Nat), n1 (u.take k) ≤ n1 u
  | [], k => by simp [n1]
  | a :: u, 0 => Nat.zero_le _
  | a :: u, k + 1 => by
    have := n1_takele u k
    show a.natAbs + n1 (u.take k) ≤ a.natAbs + n1 u
    omega
theorem n1_comb' (a b : Int) : ∀ (n : Nat) (u v w : List Int), w.length ≤ n → (∀ k, w.getD k 0 = a * u.getD k 0 + b * v.getD k 0) → n1 w ≤ a.natAbs * n1 u + b.natAbs * n1 v
  | 0, u, v, w, hl, _ => by
    obtain rfl : w = [] := List.length_eq_zero_iff.mp (by omega)
    exact Nat.zero_le _
  | n + 1, u, v, w, hl, h => by
    cases w with
    | nil => exact Nat.zero_le _
    | cons c w =>
      have ht : ∀ (r : List Int) (k : Nat), r.tail.getD k 0 = r.getD (k + 1) 0 := fun r k => by
        cases r with
        | nil => rfl
        | cons c r => rfl
      have eu : ∀ r : List Int, n1 r = (r.getD 0 0).natAbs + n1 r.tail := fun r => by
        cases r with
        | nil => rfl
        | cons c r => rfl
      have ih := n1_comb' a b n u.tail v.tail w (by simpa using hl) (fun k => by rw [ht, ht]; exact h (k + 1))
      have h0 : c = a * u.getD 0 0 + b * v.getD 0 0 := h 0
      have ab := Int.natAbs_add_le (a * u.getD 0 0) (b * v.getD 0 0)
      rw [Int.natAbs_mul, Int.natAbs_mul] at ab
      show c.natAbs + n1 w ≤ _
      rw [eu u, eu v, h0, Nat.mul_add, Nat.mul_add]
      omega
theorem n1_comb (a : Int) (u : List Int) (b : Int) (v : List Int) : n1 (comb a u b v) ≤ a.natAbs * n1 u + b.natAbs * n1 v := n1_comb' a b _ u v _ (Nat.le_refl _) (comb_get a u b v)
theorem n1_trim (u : List Int) : n1 (trim u) ≤ n1 u := by
  have := n1_comb' 1 0 _ u [] (trim u) (Nat.le_refl _) (fun k => by rw [trim_get]; omega)
  simpa using this
theorem n1_bd {u : List Int} {e : Nat} (h : n1 u < 2 ^ e) : bd u e := fun x hx => Nat.lt_of_le_of_lt (n1_mem hx) h
theorem pI_get {u : List Int} (h : ∀ x, pI u x = 0) (k : Nat) : u.getD k 0 = 0 := by
  have := pe_get h k
  rw [ri_get] at this
  exact Rat.intCast_inj.mp this
theorem dvd_gcdL {d a : Int} : ∀ {v : List Int}, (∀ y ∈ v, d ∣ a * y) → d.natAbs ∣ a.natAbs * gcdL v
  | [], _ => by
    show _ ∣ a.natAbs * 0
    exact Nat.dvd_zero _
  | y :: v, h => by
    have h1 : d.natAbs ∣ a.natAbs * y.natAbs := by
      have := Int.natAbs_dvd_natAbs.mpr (h y (List.mem_cons_self ..))
      rwa [Int.natAbs_mul] at this
    have h2 := dvd_gcdL (v := v) fun z hz => h z (List.mem_cons_of_mem _ hz)
    show _ ∣ a.natAbs * Nat.gcd y.natAbs (gcdL v)
    rw [← Nat.gcd_mul_left]
    exact Nat.dvd_gcd h1 h2
theorem gcdL_some : ∀ {u : List Int}, gcdL u ≠ 0 → ∃ k, u.getD k 0 ≠ 0
  | [], h => absurd rfl h
  | x :: xs, h => by
    by_cases q : x = 0
    · subst q
      have : gcdL xs ≠ 0 := fun z => h (by show Nat.gcd (0 : Int).natAbs (gcdL xs) = 0; rw [z]; rfl)
      obtain ⟨k, hk⟩ := gcdL_some this
      exact ⟨k + 1, by rw [List.getD_cons_succ]; exact hk⟩
    · exact ⟨0, q⟩
theorem mem_get {u : List Int} {y : Int} (h : y ∈ u) : ∃ k, u.getD k 0 = y := by
  obtain ⟨k, hk, e⟩ := List.getElem_of_mem h
  exact ⟨k, by rw [List.getD_eq_getElem?_getD, List.getElem?_eq_getElem hk, ← e]; rfl⟩
/-- primitive rows with values in proportion are one -/
theorem prim_uniq {c : Rat} (hc : 0 < c) {u v : List Int} (h : ∀ x, pI u x = c * pI v x) (gu : gcdL u = 1) (gv : gcdL v = 1) (tu : u.getLast? ≠ some 0) (tv : v.getLast? ≠ some 0) : u = v := by
  have hk : ∀ k, ((u.getD k 0 : Int) : Rat) = c * ((v.getD k 0 : Int) : Rat) := fun k => by
    rw [← ri_get, ← ri_get]
    exact pe_prop h k
  obtain ⟨m, hm⟩ := gcdL_some (u := u) (by omega)
  have hv : v.getD m 0 ≠ 0 := fun z => by
    have := hk m
    rw [z] at this
    have z0 : ((0 : Int) : Rat) = 0 := rfl
    rw [z0] at this
    have e : ((u.getD m 0 : Int) : Rat) = ((0 : Int) : Rat) := by rw [this, z0]; grind
    exact hm (Rat.intCast_inj.mp e)
  have cross : ∀ k, u.getD k 0 * v.getD m 0 = u.getD m 0 * v.getD k 0 := fun k => by
    apply Rat.intCast_inj.mp
    rw [Rat.intCast_mul, Rat.intCast_mul, hk k, hk m]
    grind
  have d1 : (v.getD m 0).natAbs ∣ (u.getD m 0).natAbs * gcdL v := dvd_gcdL fun y hy => by
    obtain ⟨k, rfl⟩ := mem_get hy
    rw [← cross k]
    exact ⟨u.getD k 0, Int.mul_comm _ _⟩
  have d2 : (u.getD m 0).natAbs ∣ (v.getD m 0).natAbs * gcdL u := dvd_gcdL fun y hy => by
    obtain ⟨k, rfl⟩ := mem_get hy
    rw [Int.mul_comm, cross k]
    exact ⟨v.getD k 0, rfl⟩
  rw [gv, Nat.mul_one] at d1
  rw [gu, Nat.mul_one] at d2
  have ab := Nat.dvd_antisymm d1 d2
  have c1 : ∀ k, u.getD k 0 = v.getD k 0 := by
    have e : u.getD m 0 = v.getD m 0 ∨ u.getD m 0 = - v.getD m 0 := by omega
    rcases e with e | e
    · have : c = 1 := by
        have h1 := hk m
        rw [e] at h1
        have ne := ratInt_ne hv
        grind
      intro k
      have h1 := hk k
      rw [this] at h1
      exact Rat.intCast_inj.mp (by rw [h1]; grind)
    · exfalso
      have h1 := hk m
      rw [e, Rat.intCast_neg] at h1
      have ne := ratInt_ne hv
      have : c = -1 := by grind
      rw [this] at hc
      exact absurd hc (by decide)
  exact row_ext tu tv c1
theorem gcdL_scale (g : Int) : ∀ u : List Int, gcdL (u.map fun x => g * x) = g.natAbs * gcdL u
  | [] => rfl
  | y :: u => by
    show Nat.gcd (g * y).natAbs (gcdL (u.map fun x => g * x)) = g.natAbs * Nat.gcd y.natAbs (gcdL u)
    rw [gcdL_scale g u, Int.natAbs_mul, Nat.gcd_mul_left]
theorem div_gcd {u : List Int} {g : Int} (hg : 0 < g) (hd : ∀ x ∈ u, g ∣ x) : g.natAbs * gcdL (u.map fun x => x / g) = gcdL u := by
  rw [← gcdL_scale, List.map_map]
  congr 1
  have : ∀ x ∈ u, ((fun x => g * x) ∘ fun x => x / g) x = x := fun x hx => Int.mul_ediv_cancel' (hd x hx)
  conv => rhs; rw [← List.map_id u]
  exact List.map_congr_left this
theorem prim_gcd {u : List Int} (h : ∃ x ∈ u, x ≠ 0) : gcdL (prim u) = 1 := by
  have hg := gcdL_pos h
  have e := div_gcd (u := u) (g := ((gcdL u : Nat) : Int)) (by omega) (fun x hx => gcdL_dvd hx)
  rw [Int.natAbs_natCast] at e
  exact Nat.eq_of_mul_eq_mul_left hg (by rw [Nat.mul_one]; exact e)
/-! ### rows of fractions -/
def rf (r : List Fr) : List Rat := r.map val
def pF (r : List Fr) (x : Rat) : Rat := pe (rf r) x
theorem rf_get (r : List Fr) (k : Nat) : (rf r).getD k 0 = val (r.getD k (0, 1)) := by
  unfold rf
  rw [List.getD_eq_getElem?_getD, List.getD_eq_getElem?_getD, List.getElem?_map]
  cases r[k]? with
  | none => exact (by decide +kernel : (0 : Rat) = val (0, 1))
  | some y => rfl
/-- sizes: over one denominator -/
structure Rw (r : List Fr) (N e : Nat) : Prop where
  len : r.length ≤ N
  fo : ∀ x ∈ r, FOk x
  sz : ∃ S : Int, 0 < S ∧ S.natAbs < 2 ^ e ∧ ∀ x ∈ r, ∃ u : Int, u.natAbs < 2 ^ e ∧ val x * (S : Rat) = (u : Rat)
def Tr (r : List Fr) : Prop := ∀ x, r.getLast? = some x → x.1 ≠ 0
theorem Rw.sm {r : List Fr} {N e : Nat} (h : Rw r N e) (he : e ≤ 4000) : ∀ x ∈ r, Sm x := fun x hx => by
  obtain ⟨S, s0, s1, all⟩ := h.sz
  obtain ⟨u, hu, eu⟩ := all x hx
  have f := h.fo x hx
  obtain ⟨a, b, _⟩ := f.small s0 eu
  exact ⟨f.1, Nat.lt_of_le_of_lt a (pow_up hu he), Nat.lt_of_le_of_lt b (pow_up s1 he)⟩
theorem Rw.up {r : List Fr} {N e M f : Nat} (h : Rw r N e) (h1 : N ≤ M) (h2 : e ≤ f) : Rw r M f := by
  obtain ⟨S, s0, s1, all⟩ := h.sz
  exact ⟨Nat.le_trans h.len h1, h.fo, S, s0, pow_up s1 h2, fun x hx => by
    obtain ⟨u, hu, eu⟩ := all x hx
    exact ⟨u, pow_up hu h2, eu⟩⟩
theorem Rw.take {r : List Fr} {N e : Nat} (h : Rw r N e) (k : Nat) : Rw (r.take k) N e := by
  obtain ⟨S, s0, s1, all⟩ := h.sz
  exact ⟨by rw [List.length_take]; have := h.len; omega, fun x hx => h.fo x (List.mem_of_mem_take hx), S, s0, s1, fun x hx => all x (List.mem_of_mem_take hx)⟩
theorem pF_ext {r s : List Fr} (h : ∀ k, val (r.getD k (0, 1)) = val (s.getD k (0, 1))) (x : Rat) : pF r x = pF s x := pe_ext (fun k => by rw [rf_get, rf_get, h k]) x
end Px
/-! Machines: what hangs on a disc, held and free. -/
namespace Px
open PySem DL Mx
structure Mq where
  n : Nat
  J : Nat → Rat
  W : Nat → Rat
  K : Nat → Rat
  Q : Nat → Rat
  p : Nat → Nat
/-- the kids of a disc among the last m places -/
def kf (n : Nat) (p : Nat → Nat) (i : Nat) : Nat → List Nat
  | 0 => []
  | m + 1 => if i < n - (m + 1) ∧ p (n - (m + 1)) = i then (n - (m + 1)) :: kf n p i m else kf n p i m
def kids (n : Nat) (p : Nat → Nat) (i : Nat) : List Nat := kf n p i (n - (i + 1))
theorem kf_mem {n : Nat} {p : Nat → Nat} {i c : Nat} : ∀ {m}, c ∈ kf n p i m → i < c ∧ p c = i ∧ n - m ≤ c ∧ (m ≤ n → c < n)
  | 0, h => by simp [kf] at h
  | m + 1, h => by
    unfold kf at h
    split at h
    · rename_i q
      rcases List.mem_cons.mp h with rfl | h
      · exact ⟨q.1, q.2, Nat.le_refl _, fun z => by omega⟩
      · obtain ⟨a, b, c1, d⟩ := kf_mem h
        exact ⟨a, b, by omega, fun z => d (by omega)⟩
    · obtain ⟨a, b, c1, d⟩ := kf_mem h
      exact ⟨a, b, by omega, fun z => d (by omega)⟩
theorem kids_mem {n : Nat} {p : Nat → Nat} {i c : Nat} (h : c ∈ kids n p i) : i < c ∧ p c = i ∧ c < n := by
  obtain ⟨a, b, _, d⟩ := kf_mem h
  exact ⟨a, b, d (by omega)⟩
def hpl (s q : Nat → Rat) : List Nat → Rat × Rat
  | [] => (1, 0)
  | c :: cs => ((hpl s q cs).1 * s c, (hpl s q cs).2 * s c + (hpl s q cs).1 * q c)
theorem hpl_congr {s q s' q' : Nat → Rat} : ∀ {cs : List Nat}, (∀ c ∈ cs, s c = s' c ∧ q c = q' c) → hpl s q cs = hpl s' q' cs
  | [], _ => rfl
  | c :: cs, h => by
    have ih := hpl_congr (cs := cs) fun d hd => h d (List.mem_cons_of_mem _ hd)
    obtain ⟨h1, h2⟩ := h c (List.mem_cons_self ..)
    unfold hpl
    rw [ih, h1, h2]
def hf (M : Mq) (x : Rat) : Nat → Nat → Rat × Rat
  | 0, i => (1, M.W i - x * M.J i)
  | f + 1, i => ((hpl (fun c => (hf M x f c).2 + M.K c * (hf M x f c).1) (fun c => M.Q c * (hf M x f c).2) (kids M.n M.p i)).1,
    (M.W i - x * M.J i) * (hpl (fun c => (hf M x f c).2 + M.K c * (hf M x f c).1) (fun c => M.Q c * (hf M x f c).2) (kids M.n M.p i)).1 + (hpl (fun c => (hf M x f c).2 + M.K c * (hf M x f c).1) (fun c => M.Q c * (hf M x f c).2) (kids M.n M.p i)).2)
theorem hf_fuel (M : Mq) (x : Rat) : ∀ f i, M.n ≤ f + i → hf M x f i = hf M x (f + 1) i
  | 0, i, h => by
    have e : kids M.n M.p i = [] := by
      unfold kids
      rw [show M.n - (i + 1) = 0 by omega]
      rfl
    show _ = (_, _)
    rw [e]
    show ((1 : Rat), M.W i - x * M.J i) = (1, (M.W i - x * M.J i) * 1 + 0)
    congr 1
    grind
  | f + 1, i, h => by
    have e : hpl (fun c => (hf M x f c).2 + M.K c * (hf M x f c).1) (fun c => M.Q c * (hf M x f c).2) (kids M.n M.p i) = hpl (fun c => (hf M x (f + 1) c).2 + M.K c * (hf M x (f + 1) c).1) (fun c => M.Q c * (hf M x (f + 1) c).2) (kids M.n M.p i) := hpl_congr fun c hc => by
      obtain ⟨a, _, _⟩ := kids_mem hc
      rw [hf_fuel M x f c (by omega)]
      exact ⟨rfl, rfl⟩
    show (_, _) = (_, _)
    rw [e]
theorem hf_full (M : Mq) (x : Rat) (i : Nat) : ∀ f, M.n ≤ f → hf M x f i = hf M x M.n i := fun f h => by
  obtain ⟨d, rfl⟩ := Nat.exists_eq_add_of_le h
  induction d with
  | zero => rfl
  | succ d ih =>
    rw [show M.n + (d + 1) = (M.n + d) + 1 by omega, ← hf_fuel M x (M.n + d) i (by omega)]
    exact ih (by omega)
def hM (M : Mq) (x : Rat) (i : Nat) : Rat := (hf M x M.n i).1
def fM (M : Mq) (x : Rat) (i : Nat) : Rat := (hf M x M.n i).2
def sM (M : Mq) (x : Rat) (c : Nat) : Rat := fM M x c + M.K c * hM M x c
def qM (M : Mq) (x : Rat) (c : Nat) : Rat := M.Q c * fM M x c
theorem hM_eq (M : Mq) (x : Rat) (i : Nat) : hM M x i = (hpl (sM M x) (qM M x) (kids M.n M.p i)).1 ∧ fM M x i = (M.W i - x * M.J i) * (hpl (sM M x) (qM M x) (kids M.n M.p i)).1 + (hpl (sM M x) (qM M x) (kids M.n M.p i)).2 := by
  have e : hf M x M.n i = hf M x (M.n + 1) i := (hf_full M x i (M.n + 1) (by omega)).symm
  unfold hM fM
  rw [e]
  exact ⟨rfl, rfl⟩
theorem hM_kf (M : Mq) (x : Rat) {i : Nat} (hi : i < M.n) : hM M x i = (hpl (sM M x) (qM M x) (kf M.n M.p i (M.n - (i + 1)))).1 ∧ fM M x i = (M.W i - x * M.J i) * (hpl (sM M x) (qM M x) (kf M.n M.p i (M.n - (i + 1)))).1 + (hpl (sM M x) (qM M x) (kf M.n M.p i (M.n - (i + 1)))).2 := hM_eq M x i
/-- each row times a number -/
structure Sc (M N : Mq) (h : Nat → Rat) : Prop where
  n : N.n = M.n
  p : N.p = M.p
  pos : ∀ i, 0 < h i
  J : ∀ i, N.J i = h i * M.J i
  W : ∀ i, N.W i = h i * M.W i
  K : ∀ i, N.K i = h i * M.K i
  Q : ∀ i, 0 < i → N.Q i = h (M.p i) * M.Q i
theorem hpl_sc {s q s' q' d : Nat → Rat} {t : Rat} : ∀ {cs : List Nat}, (∀ c ∈ cs, 0 < d c) → ∃ D : Rat, 0 < D ∧ ∀ {s q s' q' : Nat → Rat}, (∀ c ∈ cs, s' c = d c * s c ∧ q' c = d c * t * q c) → (hpl s' q' cs).1 = D * (hpl s q cs).1 ∧ (hpl s' q' cs).2 = D * t * (hpl s q cs).2
  | [], _ => ⟨1, by decide, fun _ => ⟨by show (1 : Rat) = 1 * 1; grind, by show (0 : Rat) = 1 * t * 0; grind⟩⟩
  | c :: cs, hd => by
    obtain ⟨D, D0, hD⟩ := hpl_sc (s := s) (q := q) (s' := s') (q' := q') (d := d) (t := t) (cs := cs) fun c hc => hd c (List.mem_cons_of_mem _ hc)
    refine ⟨D * d c, Rat.mul_pos D0 (hd c (List.mem_cons_self ..)), fun {s q s' q'} h => ?_⟩
    obtain ⟨a1, a2⟩ := hD (s := s) (q := q) (s' := s') (q' := q') fun c hc => h c (List.mem_cons_of_mem _ hc)
    obtain ⟨b1, b2⟩ := h c (List.mem_cons_self ..)
    show (hpl s' q' cs).1 * s' c = _ * ((hpl s q cs).1 * s c) ∧ (hpl s' q' cs).2 * s' c + (hpl s' q' cs).1 * q' c = _ * ((hpl s q cs).2 * s c + (hpl s q cs).1 * q c)
    rw [a1, a2, b1, b2]
    constructor <;> grind
theorem sc_hf {M N : Mq} {h : Nat → Rat} (S : Sc M N h) : ∀ f, ∃ b : Nat → Rat, (∀ i, 0 < b i) ∧ ∀ x i, (hf N x f i).1 = b i * (hf M x f i).1 ∧ (hf N x f i).2 = b i * h i * (hf M x f i).2
  | 0 => ⟨fun _ => 1, fun _ => (by decide : (0 : Rat) < 1), fun x i => ⟨by show (1 : Rat) = 1 * 1; grind, by
      show N.W i - x * N.J i = 1 * h i * (M.W i - x * M.J i)
      rw [S.W, S.J]
      grind⟩⟩
  | f + 1 => by
    obtain ⟨b, b0, hb⟩ := sc_hf S f
    have ch : ∀ i, ∃ D : Rat, 0 < D ∧ ∀ {s q s' q' : Nat → Rat}, (∀ c ∈ kids M.n M.p i, s' c = (b c * h c) * s c ∧ q' c = (b c * h c) * h i * q c) → (hpl s' q' (kids M.n M.p i)).1 = D * (hpl s q (kids M.n M.p i)).1 ∧ (hpl s' q' (kids M.n M.p i)).2 = D * h i * (hpl s q (kids M.n M.p i)).2 := fun i =>
      hpl_sc (s := h) (q := h) (s' := h) (q' := h) (d := fun c => b c * h c) (t := h i) fun c _ => Rat.mul_pos (b0 c) (S.pos c)
    refine ⟨fun i => (ch i).choose, fun i => (ch i).choose_spec.1, fun x i => ?_⟩
    have key := (ch i).choose_spec.2 (s := fun c => (hf M x f c).2 + M.K c * (hf M x f c).1) (q := fun c => M.Q c * (hf M x f c).2) (s' := fun c => (hf N x f c).2 + N.K c * (hf N x f c).1) (q' := fun c => N.Q c * (hf N x f c).2) fun c hc => by
      obtain ⟨a1, a2, a3⟩ := kids_mem hc
      obtain ⟨e1, e2⟩ := hb x c
      rw [e1, e2, S.K, S.Q c (by omega), a2]
      constructor <;> grind
    obtain ⟨k1, k2⟩ := key
    have en : kids N.n N.p i = kids M.n M.p i := by rw [S.n, S.p]
    show (hpl _ _ (kids N.n N.p i)).1 = _ * (hpl _ _ (kids M.n M.p i)).1 ∧ (N.W i - x * N.J i) * (hpl _ _ (kids N.n N.p i)).1 + (hpl _ _ (kids N.n N.p i)).2 = _ * ((M.W i - x * M.J i) * (hpl _ _ (kids M.n M.p i)).1 + (hpl _ _ (kids M.n M.p i)).2)
    rw [en, k1, k2, S.W, S.J]
    constructor
    · rfl
    · grind
theorem Sc.at {M N : Mq} {h : Nat → Rat} (S : Sc M N h) : ∃ b : Nat → Rat, (∀ i, 0 < b i) ∧ ∀ x i, hM N x i = b i * hM M x i ∧ fM N x i = b i * h i * fM M x i := by
  obtain ⟨b, b0, hb⟩ := sc_hf S M.n
  refine ⟨b, b0, fun x i => ?_⟩
  unfold hM fM
  rw [S.n]
  exact hb x i
structure Mpos (M : Mq) : Prop where
  n : 0 < M.n
  p : ∀ i, 0 < i → i < M.n → M.p i < i
  J : ∀ i, i < M.n → 0 < M.J i
  W : ∀ i, i < M.n → 0 ≤ M.W i
  K : ∀ i, 0 < i → i < M.n → 0 < M.K i
  Q : ∀ i, 0 < i → i < M.n → 0 < M.Q i
/-- how many discs hang on one, this one with them -/
def wt (n : Nat) (p : Nat → Nat) : Nat → Nat → Nat
  | 0, _ => 1
  | f + 1, i => 1 + ((kids n p i).map (wt n p f)).sum
end Px
/-! Machines as data. -/
namespace Px
open PySem DL Mx
def frOf (q : Rat) : Fr := (q.num, (q.den : Int))
theorem frOf_ok (q : Rat) : FOk (frOf q) := ⟨by show (0 : Int) < (q.den : Int); have := q.den_pos; omega, by
  show Nat.gcd q.num.natAbs ((q.den : Int)).natAbs = 1
  rw [Int.natAbs_natCast]
  exact q.reduced⟩
theorem frOf_val (q : Rat) : val (frOf q) = q := by
  show ((q.num : Int) : Rat) / (((q.den : Int)) : Rat) = q
  rw [← Rat.divInt_eq_div]
  exact Rat.num_divInt_den q
structure Ds where
  J : Fr
  W : Fr
  p : Nat
  K : Fr
  R : Fr
def d0 : Ds := ⟨(1, 1), (0, 1), 0, (1, 1), (1, 1)⟩
structure Frb (x : Fr) (B : Nat) : Prop where
  ok : FOk x
  b1 : x.1.natAbs < 2 ^ B
  b2 : x.2.natAbs < 2 ^ B
structure Dk (d : Ds) (B : Nat) : Prop where
  J : Frb d.J B
  J0 : 0 < d.J.1
  W : Frb d.W B
  W0 : 0 ≤ d.W.1
  K : Frb d.K B
  K0 : 0 < d.K.1
  R : Frb d.R B
  R0 : d.R.1 ≠ 0
/-- the root's idle numbers stand at one -/
def Rt (m : List Ds) : Prop := ∃ J W ds, m = ⟨J, W, 0, (1, 1), (1, 1)⟩ :: ds
structure Mach (m : List Ds) (B : Nat) : Prop where
  rt : Rt m
  n1 : 1 ≤ m.length
  n8 : m.length ≤ 8
  dk : ∀ i, Dk (m.getD i d0) B
  par : ∀ i, 0 < i → i < m.length → (m.getD i d0).p < i
def mq (m : List Ds) : Mq := { n := m.length, J := fun i => val (m.getD i d0).J, W := fun i => val (m.getD i d0).W, K := fun i => val (m.getD i d0).K, Q := fun i => val (m.getD i d0).K * (val (m.getD i d0).R * val (m.getD i d0).R), p := fun i => (m.getD i d0).p }
theorem Mach.pos {m : List Ds} {B : Nat} (h : Mach m B) : Mpos (mq m) := by
  refine ⟨h.n1, fun i a b => h.par i a b, fun i _ => ?_, fun i _ => ?_, fun i _ _ => ?_, fun i _ _ => ?_⟩
  · exact (val_pos (h.dk i).J.ok.1).1.mpr (h.dk i).J0
  · exact (val_pos (h.dk i).W.ok.1).2.1.mpr (h.dk i).W0
  · exact (val_pos (h.dk i).K.ok.1).1.mpr (h.dk i).K0
  · have k0 := (val_pos (h.dk i).K.ok.1).1.mpr (h.dk i).K0
    have rp := val_pos (h.dk i).R.ok.1
    have r0 : val (m.getD i d0).R ≠ 0 := fun z => (h.dk i).R0 (rp.2.2.mp z)
    refine Rat.mul_pos k0 ?_
    have : val (m.getD i d0).R < 0 ∨ 0 < val (m.getD i d0).R := by grind
    rcases this with q | q
    · have := Rat.mul_pos (show 0 < - val (m.getD i d0).R by grind) (show 0 < - val (m.getD i d0).R by grind)
      grind
    · exact Rat.mul_pos q q
/-! the scales of the rows -/
end Px
/-! Ranges with a start and with a step down, loops with several targets, enumerate in a comprehension. -/
namespace DL
open PySem PySem.Spec PyProof.Rows L2
section
variable {K : PySem.W.Frag} {B : Bs} {G : List Hp} {L : List Addr} {Γ : List Sl} {H H' H2 : Hp} {σ : L2.St}
variable {te ta tb tc tl : TE} {tt tu : TT} {tr : TA} {k : PyData → Prop} {x y : PyData} {P P' : PD} {t u : TS}
/-- for a, b, .. in a tuple of tuples -/
theorem st_forTG {n : Nat} {tg : TGs} (h : EvP K B G L Γ tl fun d => ∃ ds : List (List PyData), d = .tuple (ds.map .tuple) ∧ (∀ d ∈ ds, d.length = n) ∧ ∃ I : Nat → List Addr → List Sl → Prop, I 0 L Γ ∧
    (∀ i d' L' Γ' g, ds[i]? = some d' → I i L' Γ' → TgP K B (g :: G) L' Γ' tg d' fun Γ2 => StP K B (g :: G) L' Γ2 t (P.inLoop (I (i + 1)))) ∧ ∀ L' Γ', I ds.length L' Γ' → P.nx L' Γ') :
    StP K B G L Γ (tFor (iTup K tl) (gTup K n tg) t) P := fun σ H D E M =>
  h σ H _ E fun v d H1 g1 dn ⟨ds, e, hn, I, h0, hs, hd⟩ => by
    subst e
    cases dn with
    | @tup a xs _ e1 h2 =>
      have E1 := g1.env.gpush
      refine ⟨a, rfl, ⟨xs, Same.sqt (hid_sub _ _) e1⟩, for_tup (xs := xs) (fun i σ' H' => ∃ L' Γ', I i L' Γ' ∧ Env K B (hid (L ++ B.M) H1 :: G) L' H' σ' Γ') ⟨L, Γ, h0, E1⟩ (fun i σ' H' _ ⟨L', Γ', _, E'⟩ => ?_) (fun i x σ' H' hi ⟨L', Γ', hI, E'⟩ => ?_) (fun σ' H' ⟨L', Γ', hI, E'⟩ => ?_)⟩
      · exact Same.sqt (hid_sub _ _) (Same.sqt (E'.gh _ (List.mem_cons_self ..)) e1)
      · obtain ⟨d', e', dn'⟩ := h2.getV hi
        rw [List.getElem?_map] at e'
        cases e2 : ds[i]? with
        | none => rw [e2] at e'; cases e'
        | some q =>
          rw [e2] at e'
          cases e'
          cases dn'.mono (E'.gh _ (List.mem_cons_self ..)) with
          | @tup a2 ys _ e3 h3 =>
            refine ⟨a2, ys, rfl, Same.sqt (hid_sub _ _) e3, by rw [h3.length]; exact hn q (List.mem_of_getElem? e2), hs i q L' Γ' _ e2 hI σ' H' ys _ E' h3 fun Γ2 σ2 E2 hk => ?_⟩
            exact hk σ2 H' _ E2 ⟨fun L2 Γ2 σ2 H2 q E2 => ⟨L2, Γ2, q, E2⟩, M.rt, fun L2 Γ2 σ2 H2 q E2 => M.nx _ _ _ _ q E2.gpop, fun L2 Γ2 σ2 H2 q E2 => ⟨L2, Γ2, q, E2⟩⟩
      · have hl := h2.length
        rw [List.length_map] at hl
        rw [hl] at hI
        exact M.nx _ _ _ _ (hd L' Γ' hI) E'.gpop
/-- a, b = DATA, (a new list), kept as one's own -/
theorem st_parDO {i j : Nat} (h : EvP K B G L Γ ta fun x => EvN K B G L Γ tb fun ys => ∀ l : Addr, P.nx (l :: L) ((Γ.set i (.d x)).set j (.own l ys))) : StP K B G L Γ (tPar i j (tCons ta (tCons tb tNil))) P := fun σ H D E M =>
  h σ H _ E fun v x H1 g1 dx h2 => h2 σ H1 _ g1.env fun p vs ys H2 g2 hp hv dv hk => by
    have E1 := g1.env.put i dx
    have g3 := Go.step E1 g2.rl g2.env.ws
    have E2 := Env.take E1 g3 hp hv j dv
    exact ⟨_, _, rfl, M.nx _ _ _ _ (hk p) E2⟩
theorem comp_turnE {j m n : Nat} {vs : List Nat} {item : Nat → PyData → PyData → Prop} {J : Nat → List PyData → Prop} {H1 : Hp} {D : Addr} {i : Nat} {x y : PyData} (E1 : Env K B G L H1 σ Γ) (hD : H1 D = none) (C : CompOk2 K B G L Γ j m tt te vs n item J) (hn : n ≤ 100000)
    (hw : ∀ (σ : L2.St) x y, L2.wipe (((L2.wipe σ vs).set j (some x)).set m (some y)) vs = L2.wipe σ vs)
    (S : Sofar K B L H1 H' D i J) (hi : item i x y) (hin : i < n) {a : Addr} {v1 v2 : V} (e1 : SqT K H' a [v1, v2]) (d1 : Dn K (hid (L ++ B.M) H1) v1 x) (d2 : Dn K (hid (L ++ B.M) H1) v2 y) :
    gTwo K j m (.ref a) (L2.wipe σ vs) H' fun σ2 H2 => L2.wipe σ2 vs = L2.wipe σ vs ∧ tt σ2 H2 fun b H3 => if b = true then te σ2 H3 fun z H4 => ∃ acc, H4 D = some (.lst acc) ∧ acc.length < sizeLine ∧ Sofar K B L H1 (upd H4 D (.lst (acc ++ [z]))) D (i + 1) J else Sofar K B L H1 H3 D (i + 1) J := by
  obtain ⟨rl, ws, accV, acc, hJ, hlen, hDl, dA⟩ := S
  have g0 : Go K B G L Γ H1 H' σ := Go.of_rel E1 rl ws
  have ET := Env.temp E1 g0 hD hDl
  have hk0 : Same (hid (L ++ B.M) H1) (hid (D :: L ++ B.M) H') := g0.keepL E1 hD
  refine ⟨a, _, rfl, e1, rfl, v1, _, rfl, v2, _, rfl, rfl, hw σ v1 v2, ?_⟩
  have EW := ((ET.wipe vs).put j (d1.mono hk0)).put m (d2.mono hk0)
  refine C.2 i D x y acc hi hJ hin _ H' _ EW fun b H3 g3 ⟨c1, c2⟩ => ?_
  have D3 : H3 D = some (.lst accV) := g3.kp D (List.mem_cons_self ..) _ hDl
  cases b with
  | false =>
    refine iteF ⟨fun a o w e => g3.rl a o w (rl a o w e), g3.env.ws, accV, acc, c2 rfl, by omega, D3, dA.mono g3.sm⟩
  | true =>
    refine iteT (c1 rfl _ H3 _ g3.env fun y d H4 g4 dy hJ' => ?_)
    have D4 : H4 D = some (.lst accV) := g4.kp D (List.mem_cons_self ..) _ D3
    refine ⟨accV, D4, ?_, ?_⟩
    · rw [dA.length]
      exact Nat.lt_of_le_of_lt hlen (Nat.lt_of_lt_of_le (Nat.lt_of_lt_of_le hin hn) (by decide))
    · have hs : Same (hid (D :: (L ++ B.M)) H4) (hid (D :: (L ++ B.M)) (upd H4 D (.lst (accV ++ [y])))) := fun a o e => by
        obtain ⟨q, e⟩ := hid_some e
        rw [hid_out q, upd_ne (fun z => q (by rw [z]; exact List.mem_cons_self ..))]
        exact e
      have dW : D ∉ B.Ws := fun w => by
        obtain ⟨_, _, _, q, _⟩ := E1.ws D w
        rw [hD] at q; cases q
      refine ⟨fun a o w e => ?_, fun w hw => ?_, accV ++ [y], acc ++ [d], hJ', by rw [List.length_append]; exact Nat.succ_le_succ hlen, upd_same, ?_⟩
      · rw [upd_ne (ne_of_none e hD)]
        exact g4.rl a o w (g3.rl a o w (rl a o w e))
      · obtain ⟨n, b, c, e, q⟩ := g4.env.ws w hw
        exact ⟨n, b, c, by rw [upd_ne (fun (z : w = D) => dW (by rw [← z]; exact hw))]; exact e, q⟩
      · exact ((dA.mono g3.sm).mono g4.sm |>.append (.cons dy .nil)).mono hs
theorem Sofar.newT {H1 : Hp} {D T : Addr} {i : Nat} {J : Nat → List PyData → Prop} {o : HO} (E1 : Env K B G L H1 σ Γ) (hD : H1 D = none) (S : Sofar K B L H1 H' D i J) (hT : H' T = none) : Sofar K B L H1 (upd H' T o) D i J := by
  obtain ⟨rl, ws, accV, acc, hJ, hlen, hDl, dA⟩ := S
  have s : Same H' (upd H' T o) := same_upd hT
  exact ⟨fun a x w e => s _ _ (rl a x w e), fun w hw => by
    obtain ⟨n, b, c, e, q⟩ := ws w hw
    exact ⟨n, b, c, s _ _ e, q⟩, accV, acc, hJ, hlen, s _ _ hDl, dA.mono (hid_same fun a x _ e => s _ _ e)⟩
end
end DL
/-! The determinants of a machine's table, disc by disc. -/
namespace Px
open PySem DL Mx L2
theorem Frb.sm {x : Fr} {B : Nat} (h : Frb x B) (hB : B ≤ 4000) : Sm x := ⟨h.ok.1, pow_up h.b1 hB, pow_up h.b2 hB⟩
theorem cdw {a b : Int} {e : Nat} (h0 : 0 < b) (h : b.natAbs < 2 ^ e) (he : e ≤ 9000) : L2.CDivW a b := by
  refine ⟨h0, ?_⟩
  have := (Nat.log2_lt (n := b.natAbs) (by omega)).mpr (pow_up h he)
  omega
structure EndOk (m : List Ds) (u : List Int) : Prop where
  at_ : ∃ c : Rat, 0 < c ∧ ∀ x, pI u x = c * fM (mq m) x 0
  g : gcdL u = 1
  tt : u.getLast? ≠ some 0
  l : u.length ≤ 9
  b : bd u 3901
theorem EndOk.uniq {m n : List Ds} {u v : List Int} (h1 : EndOk m u) (h2 : EndOk n v) {z : Rat} (hz : 0 < z) (e : ∀ x, fM (mq n) x 0 = z * fM (mq m) x 0) : u = v := by
  obtain ⟨⟨c, c0, hc⟩, g1, t1, _, _⟩ := h1
  obtain ⟨⟨d, d0', hd⟩, g2, t2, _, _⟩ := h2
  have dz := Rat.mul_pos d0' hz
  have dzn : d * z ≠ 0 := fun q => by rw [q] at dz; exact absurd dz (by decide)
  refine prim_uniq (c := c * (d * z)⁻¹) (Rat.mul_pos c0 (Rat.inv_pos.mpr dz)) (fun x => ?_) g1 g2 t1 t2
  rw [hc, hd, e]
  grind
end Px
/-! Machines geared out, turned, grown; weights of subtrees. -/
namespace Px
open PySem DL Mx L2
/-! how many discs hang on one -/
def sm (n : Nat) (P : Nat → Bool) (w : Nat → Nat) : Nat → Nat
  | 0 => 0
  | m + 1 => (if P (n - (m + 1)) then w (n - (m + 1)) else 0) + sm n P w m
def wM (n : Nat) (p : Nat → Nat) (i : Nat) : Nat := wt n p n i
def wsum (n : Nat) (p : Nat → Nat) (cs : List Nat) : Nat := (cs.map (wM n p)).sum
theorem wt_fuel {n : Nat} {p : Nat → Nat} : ∀ f i, n ≤ f + i → wt n p f i = wt n p (f + 1) i
  | 0, i, h => by
    have e : kids n p i = [] := by
      unfold kids
      rw [show n - (i + 1) = 0 by omega]
      rfl
    show 1 = 1 + ((kids n p i).map _).sum
    rw [e]
    rfl
  | f + 1, i, h => by
    show 1 + ((kids n p i).map (wt n p f)).sum = 1 + ((kids n p i).map (wt n p (f + 1))).sum
    rw [List.map_congr_left fun c hc => wt_fuel f c (by have := (kids_mem hc).1; omega)]
theorem wM_eq (n : Nat) (p : Nat → Nat) (i : Nat) : wM n p i = 1 + wsum n p (kf n p i (n - (i + 1))) := by
  unfold wM
  rw [wt_fuel n i (by omega)]
  rfl
/-! geared out -/
def gR (m : List Ds) : Nat → Nat → Rat
  | 0, _ => 1
  | f + 1, i => if 0 < i ∧ i < m.length then gR m f (m.getD i d0).p * val (m.getD i d0).R else 1
def gM (m : List Ds) (i : Nat) : Rat := gR m m.length i
def g2 (m : List Ds) (i : Nat) : Rat := gM m i * gM m i
def od (m : List Ds) (i : Nat) : Ds := if i = 0 then m.getD 0 d0 else ⟨frOf (val (m.getD i d0).J * g2 m i), frOf (val (m.getD i d0).W * g2 m i), (m.getD i d0).p, frOf (val (m.getD i d0).K * g2 m i), (1, 1)⟩
theorem frOf_pos {q : Rat} (h : 0 < q) : 0 < (frOf q).1 := (val_pos (frOf_ok q).1).1.mp (by rw [frOf_val]; exact h)
end Px
/-! Rows of fractions over one denominator. -/
namespace Px
open PySem DL Mx L2
def fS (S u : Int) : Fr := frOf ((u : Rat) / (S : Rat))
def rowS (U : List Int) (S : Int) : List Fr := U.map (fS S)
theorem fS_ok (S u : Int) : FOk (fS S u) := frOf_ok _
theorem fS_val (S u : Int) : val (fS S u) = (u : Rat) / (S : Rat) := frOf_val _
theorem fS_sm {S u : Int} (h : 0 < S) (h1 : u.natAbs < 2 ^ 4000) (h2 : S.natAbs < 2 ^ 4000) : Sm (fS S u) := by
  have n := ratInt_ne (a := S) (by omega)
  obtain ⟨a, b, _⟩ := (fS_ok S u).small (u := u) (S := S) h (by rw [fS_val]; grind)
  exact ⟨(fS_ok S u).1, Nat.lt_of_le_of_lt a h1, Nat.lt_of_le_of_lt b h2⟩
theorem fS_eq {x : Fr} {S u : Int} (f : FOk x) (h : val x = (u : Rat) / (S : Rat)) : x = fS S u := FOk.inj f (fS_ok S u) (by rw [h, fS_val])
theorem fS_self {x : Fr} (f : FOk x) : x = fS x.2 x.1 := fS_eq f rfl
theorem fS_zero (S : Int) : fS S 0 = (0, 1) := (fS_eq (x := (0, 1)) ⟨by decide, by decide⟩ (by
  rw [val_zero]
  have z0 : ((0 : Int) : Rat) = 0 := rfl
  rw [z0]
  grind)).symm
theorem rowS_len (U : List Int) (S : Int) : (rowS U S).length = U.length := List.length_map ..
theorem rowS_get (U : List Int) (S : Int) (k : Nat) : (rowS U S).getD k (0, 1) = fS S (U.getD k 0) := by
  unfold rowS
  rw [List.getD_eq_getElem?_getD, List.getD_eq_getElem?_getD, List.getElem?_map]
  cases U[k]? with
  | none => exact (fS_zero S).symm
  | some y => rfl
theorem rowS_ok (U : List Int) (S : Int) : ∀ y ∈ rowS U S, FOk y := fun y hy => by
  obtain ⟨u, _, rfl⟩ := List.mem_map.mp hy
  exact fS_ok S u
theorem rowS_sm {U : List Int} {S : Int} (h : 0 < S) (h1 : n1 U < 2 ^ 4000) (h2 : S.natAbs < 2 ^ 4000) : ∀ y ∈ rowS U S, Sm y := fun y hy => by
  obtain ⟨u, hu, rfl⟩ := List.mem_map.mp hy
  exact fS_sm h (Nat.lt_of_le_of_lt (n1_mem hu) h1) h2
theorem rowS_pF (U : List Int) (S : Int) (x : Rat) : pF (rowS U S) x = pI U x / (S : Rat) := by
  have := pe_lin (a := (S : Rat)⁻¹) (b := 0) (u := ri U) (v := []) (w := rf (rowS U S)) (fun k => by
    rw [rf_get, rowS_get, fS_val, ri_get]
    grind) x
  unfold pF pI
  rw [this]
  grind
theorem Tr_fst {t : List Fr} (h : Tr t) : (t.map Prod.fst).getLast? ≠ some 0 := by
  rw [List.getLast?_map]
  cases e : t.getLast? with
  | none => simp
  | some y =>
    intro z
    exact h y e (Option.some.inj z)
theorem fst_get (t : List Fr) (k : Nat) : (t.map Prod.fst).getD k 0 = (t.getD k (0, 1)).1 := by
  rw [List.getD_eq_getElem?_getD, List.getD_eq_getElem?_getD, List.getElem?_map]
  cases t[k]? <;> rfl
theorem get_ok {t : List Fr} (h : ∀ y ∈ t, FOk y) (k : Nat) : FOk (t.getD k (0, 1)) := by
  rw [List.getD_eq_getElem?_getD]
  cases e : t[k]? with
  | none => exact ⟨by decide, by decide⟩
  | some y => exact h y (List.mem_of_getElem? e)
theorem rowF_ext {t s : List Fr} (ht : ∀ y ∈ t, FOk y) (hs : ∀ y ∈ s, FOk y) (tt : Tr t) (ts : Tr s) (h : ∀ k, val (t.getD k (0, 1)) = val (s.getD k (0, 1))) : t = s := by
  have e : ∀ k, t.getD k (0, 1) = s.getD k (0, 1) := fun k => FOk.inj (get_ok ht k) (get_ok hs k) (h k)
  have l : t.map Prod.fst = s.map Prod.fst := row_ext (Tr_fst tt) (Tr_fst ts) fun k => by rw [fst_get, fst_get, e k]
  have ln : t.length = s.length := by
    have := congrArg List.length l
    rwa [List.length_map, List.length_map] at this
  refine List.ext_getElem ln fun k h1 h2 => ?_
  have := e k
  rw [List.getD_eq_getElem?_getD, List.getD_eq_getElem?_getD, List.getElem?_eq_getElem h1, List.getElem?_eq_getElem h2] at this
  exact this
theorem rowS_tr {U : List Int} {S : Int} (h : 0 < S) (t : U.getLast? ≠ some 0) : Tr (rowS U S) := fun y hy z => by
  unfold rowS at hy
  rw [List.getLast?_map] at hy
  cases e : U.getLast? with
  | none => rw [e] at hy; cases hy
  | some u =>
    rw [e] at hy
    obtain rfl := Option.some.inj hy
    have v := fS_val S u
    have z0 := ((val_pos (fS_ok S u).1).2.2).mpr z
    rw [z0] at v
    have n := ratInt_ne (a := S) (by omega)
    have : (u : Rat) = 0 := by grind
    have : u = 0 := Rat.intCast_inj.mp this
    exact t (by rw [e, this])
theorem rowS_uniq {t : List Fr} {U : List Int} {S : Int} (ht : ∀ y ∈ t, FOk y) (tt : Tr t) (h : 0 < S) (hv : ∀ x, pF t x = pI U x / (S : Rat)) : t = rowS (trim U) S := by
  refine rowF_ext ht (rowS_ok _ _) tt (rowS_tr h (trim_last _)) fun k => ?_
  have e := pe_prop (c := 1) (u := rf t) (v := rf (rowS (trim U) S)) (fun x => by
    have a := hv x
    have b := rowS_pF (trim U) S x
    rw [pI_trim] at b
    unfold pF at a b
    rw [a, b]
    grind) k
  rw [rf_get, rf_get] at e
  rw [e]
  grind
theorem n1_of_bd : ∀ {u : List Int} {e : Nat}, bd u e → u.length ≤ 16 → n1 u < 2 ^ (e + 4)
  | u, e, h, hl => by
    have : ∀ (u : List Int), bd u e → n1 u ≤ u.length * 2 ^ e := fun u => by
      induction u with
      | nil => intro _; exact Nat.zero_le _
      | cons a u ih =>
        intro h
        have h1 := h a (List.mem_cons_self ..)
        have h2 := ih fun x hx => h x (List.mem_cons_of_mem _ hx)
        show a.natAbs + n1 u ≤ (u.length + 1) * 2 ^ e
        rw [Nat.add_mul]
        omega
    have h1 := this u h
    have h2 := Nat.mul_le_mul_right (2 ^ e) hl
    have p := Nat.two_pow_pos e
    rw [Nat.pow_add]
    by_cases q : u.length = 16
    · have h3 : n1 u ≤ u.length * (2 ^ e - 1) := by
        have : ∀ (u : List Int), bd u e → n1 u ≤ u.length * (2 ^ e - 1) := fun u => by
          induction u with
          | nil => intro _; exact Nat.zero_le _
          | cons a u ih =>
            intro h
            have h1 := h a (List.mem_cons_self ..)
            have h2 := ih fun x hx => h x (List.mem_cons_of_mem _ hx)
            show a.natAbs + n1 u ≤ (u.length + 1) * (2 ^ e - 1)
            rw [Nat.add_mul]
            omega
        exact this u h
      rw [q] at h3
      omega
    · have := Nat.mul_le_mul_right (2 ^ e) (show u.length ≤ 15 by omega)
      omega
/-! ### parts of a machine -/
def eW (B a : Nat) : Nat := (3 * B + 9) * a - (B + 8)
structure Half (B a : Nat) (U V : List Int) (S : Int) : Prop where
  s0 : 0 < S
  sb : S.natAbs < 2 ^ eW B a
  nu : n1 U < 2 ^ eW B a
  nv : n1 V < 2 ^ eW B a
  lu : U.length ≤ a
  lv : V.length ≤ a + 1
  tu : U.getLast? ≠ some 0
  tv : V.getLast? ≠ some 0
structure PInv (m : List Ds) (B i k a : Nat) (U V : List Int) (S : Int) : Prop where
  a1 : 1 ≤ a
  sz : Half B a U V S
  wa : a + wsum (mq m).n (mq m).p (kf (mq m).n (mq m).p i ((mq m).n - k)) = wM (mq m).n (mq m).p i
  hv : ∀ x, pI U x * (hpl (sM (mq m) x) (qM (mq m) x) (kf (mq m).n (mq m).p i ((mq m).n - k))).1 = (S : Rat) * hM (mq m) x i
  fv : ∀ x, pI V x * (hpl (sM (mq m) x) (qM (mq m) x) (kf (mq m).n (mq m).p i ((mq m).n - k))).1 + pI U x * (hpl (sM (mq m) x) (qM (mq m) x) (kf (mq m).n (mq m).p i ((mq m).n - k))).2 = (S : Rat) * fM (mq m) x i
theorem n1_sc (k : Int) (u : List Int) : n1 (trim (comb k u 0 [])) ≤ k.natAbs * n1 u := by
  have a1 := n1_trim (comb k u 0 [])
  have a2 := n1_comb k u 0 []
  have : (0 : Int).natAbs * n1 [] = 0 := rfl
  omega
theorem pI_sc (k : Int) (u : List Int) (x : Rat) : pI (trim (comb k u 0 [])) x = (k : Rat) * pI u x := by
  rw [pI_trim, pI_comb]
  have z0 : ((0 : Int) : Rat) = 0 := rfl
  rw [z0]
  grind
theorem len_sc (k : Int) (u : List Int) : (trim (comb k u 0 [])).length ≤ u.length := by
  have a1 := trim_len (comb k u 0 [])
  rw [comb_len] at a1
  simp only [List.length_nil] at a1
  omega
theorem mul_bd {a b c d : Nat} (h1 : a < 2 ^ c) (h2 : b < 2 ^ d) : a * b < 2 ^ (c + d) := by
  rw [Nat.pow_add]
  exact Nat.mul_lt_mul'' h1 h2
theorem pinv0 {m : List Ds} {B i : Nat} {U V : List Int} {S : Int} (hi : i < m.length) (sz : Half B 1 U V S) (hu : ∀ x, pI U x = (S : Rat)) (hv : ∀ x, pI V x = (S : Rat) * ((mq m).W i - x * (mq m).J i)) : PInv m B i (i + 1) 1 U V S := by
  have k := fun x => hM_kf (mq m) x (i := i) hi
  refine ⟨Nat.le_refl _, sz, (wM_eq _ _ _).symm, fun x => ?_, fun x => ?_⟩
  · rw [(k x).1, hu]
  · rw [(k x).2, hu, hv]
    grind
end Px
/-! Machines that are built, turned, grown; rows of the law's parts. -/
namespace Px
open PySem DL Mx L2
theorem sc_row {t : List Fr} {k1 k2 : Int} {U : List Int} {T : Int} (fo : ∀ y ∈ t, FOk y) (tr : Tr t) (hk : 0 < k2) (hT : 0 < T) (pv : ∀ x, pF t x = pF (rowS [k1] k2) x * pF (rowS U T) x) : t = rowS (trim (comb k1 U 0 [])) (k2 * T) := by
  refine rowS_uniq fo tr (Int.mul_pos hk hT) fun x => ?_
  have a := ratInt_ne (a := k2) (by omega)
  have b := ratInt_ne (a := T) (by omega)
  have e := pI_sc k1 U x
  rw [pI_trim] at e
  have e1 : pI [k1] x = (k1 : Rat) + x * 0 := rfl
  rw [pv, rowS_pF, rowS_pF, e, e1, Rat.intCast_mul]
  grind
theorem fr_row {x : Fr} (f : FOk x) : [x] = rowS [x.1] x.2 := by
  show [x] = [fS x.2 x.1]
  rw [← fS_self f]
theorem Frb.up {x : Fr} {a b : Nat} (h : Frb x a) (l : a ≤ b) : Frb x b := ⟨h.ok, pow_up h.b1 l, pow_up h.b2 l⟩
theorem Mach.up {m : List Ds} {a b : Nat} (h : Mach m a) (l : a ≤ b) : Mach m b := ⟨h.rt, h.n1, h.n8, fun i => by
  have d := h.dk i
  exact ⟨d.J.up l, d.J0, d.W.up l, d.W0, d.K.up l, d.K0, d.R.up l, d.R0⟩, h.par⟩
theorem get_snoc {ms : List Ds} {d : Ds} (i : Nat) : (ms ++ [d]).getD i d0 = if i = ms.length then d else ms.getD i d0 := by
  rcases Nat.lt_trichotomy i ms.length with q | q | q
  · rw [if_neg (by omega), List.getD_eq_getElem?_getD, List.getElem?_append_left q, ← List.getD_eq_getElem?_getD]
  · rw [if_pos q, List.getD_eq_getElem?_getD, List.getElem?_append_right (by omega), q, Nat.sub_self]
    rfl
  · rw [if_neg (by omega), get_out (by rw [List.length_append]; simp; omega), get_out (by omega)]
theorem Mach.push {ms : List Ds} {B : Nat} (h : Mach ms B) {d : Ds} (k : Dk d B) (hp : d.p < ms.length) (l : ms.length < 8) : Mach (ms ++ [d]) B := by
  obtain ⟨J, W, ds, e⟩ := h.rt
  refine ⟨⟨J, W, ds ++ [d], by rw [e]; rfl⟩, by simp, by simp; omega, fun i => ?_, fun i i0 hi => ?_⟩
  · rw [get_snoc]
    split
    · exact k
    · exact h.dk i
  · rw [get_snoc]
    split
    · rename_i q
      rw [q]
      exact hp
    · rename_i q
      rw [List.length_append] at hi
      exact h.par i i0 (by simp at hi; omega)
end Px
/-! Loops over three rows at once, lists or tuples, of one length. -/
namespace DL
open PySem PySem.Spec PyProof.Rows L2 RZ
def SqB (K : PySem.W.Frag) (H : Hp) (b : Bool) (a : Addr) (xs : List V) : Prop := if b = true then SqT K H a xs else SqL K H a xs
def ItB (h : Heap) (b : Bool) (it l : Addr) (i : Nat) : Prop := if b = true then h.IsTupleIter it l i else h.IsListIter it l i
def ObB (h : Heap) (b : Bool) (l : Addr) (items : Array Value) : Prop := if b = true then h.IsTuple l items else h.IsList l items
theorem ItB.ob {h : Heap} {b : Bool} {it l : Addr} {i : Nat} (q : ItB h b it l i) : ∃ o, h.get? it = some o ∧ o.data = .fields #[.ref l, .int i 0] := by
  unfold ItB at q
  cases b with
  | true => obtain ⟨o, e, _, d⟩ := (show h.IsTupleIter it l i from q); exact ⟨o, e, d⟩
  | false => obtain ⟨o, e, _, d⟩ := (show h.IsListIter it l i from q); exact ⟨o, e, d⟩
theorem ItB.at {h h' : Heap} {b : Bool} {it l : Addr} {i : Nat} (q : ItB h b it l i) (k : ∀ o, h.get? it = some o → h'.get? it = some o) : ItB h' b it l i := by
  unfold ItB at q ⊢
  cases b with
  | true => exact Heap.IsTupleIter.at (show h.IsTupleIter it l i from q) k
  | false => exact Heap.IsListIter.at (show h.IsListIter it l i from q) k
theorem drawsB {prog : Program} {w : World} {A : Around} (hh : A.handled = none) (b : Bool) (it l : Addr) (hne : l ≠ it) (items : Array Value) : Draws prog w A it [it, l] items.size (fun i v => items[i]? = some v) (fun i h => ItB h b it l i ∧ ObB h b l items) := by
  cases b with
  | true => exact Draws.tuple hh it l hne items
  | false => exact Draws.list hh it l hne items
theorem beginsB (b : Bool) (l : Addr) (items : Array Value) : Begins (.ref l) { cls := .type (if b = true then "tuple_iterator" else "list_iterator"), data := .fields #[.ref l, .int 0 0] } fun h => ObB h b l items := by
  cases b with
  | true => exact begins_tuple l items
  | false => exact begins_list l items
theorem itB_new {h : Heap} {b : Bool} {it l : Addr} (e : h.get? it = some { cls := .type (if b = true then "tuple_iterator" else "list_iterator"), data := .fields #[.ref l, .int 0 0] }) : ItB h b it l 0 := by
  unfold ItB
  cases b with
  | true => exact ⟨_, e, rfl, rfl⟩
  | false => exact ⟨_, e, rfl, rfl⟩
theorem inv_seqB {X : Cx} {pins : List (Addr × Obj)} {σ : L2.St} {H : Hp} {s : Shared} (I : Inv X pins σ H s) {b : Bool} {a : Addr} {xs : List V} (q : SqB X.K H b a xs) : ∃ its : List Value, ObB s.heap b a its.toArray ∧ its.length = xs.length ∧ (∀ (i : Nat) (x : V), xs[i]? = some x → ∃ u, its[i]? = some u ∧ RelV x u) ∧ a < s.heap.objs.size := by
  unfold SqB at q
  unfold ObB
  cases b with
  | true =>
    obtain ⟨its, rv, p, _⟩ := I.tuple (show SqT X.K H a xs from q)
    obtain ⟨o, ho, _⟩ := id p
    exact ⟨its, p, rv.length.symm, fun i x hx => rv.get hx, Heap.lt_size ho⟩
  | false =>
    obtain ⟨its, rv, p, _⟩ := I.list (show SqL X.K H a xs from q)
    exact ⟨its, p.isList, rv.length.symm, fun i x hx => rv.get hx, p.lt⟩
theorem inv_injB {X : Cx} {pins : List (Addr × Obj)} {σ : L2.St} {H : Hp} {s : Shared} (I : Inv X pins σ H s) {b : Bool} {a : Addr} {xs ys : List V} (q : SqB X.K H b a xs) (r : SqB X.K H b a ys) : xs = ys := by
  unfold SqB at q r
  cases b with
  | true => exact I.tuple_inj (show SqT X.K H a xs from q) (show SqT X.K H a ys from r)
  | false => exact I.list_inj (show SqL X.K H a xs from q) (show SqL X.K H a ys from r)
section
variable {K : PySem.W.Frag} {B : Bs} {G : List Hp} {L : List Addr} {Γ : List Sl} {H H' H2 : Hp} {σ : L2.St}
variable {te ta tb tc tl : TE} {tt tu : TT} {tr : TA} {k : PyData → Prop} {x y : PyData} {P P' : PD} {t u : TS}
def rowB (b : Bool) (ds : List PyData) : PyData := if b = true then .tuple ds else .list ds
theorem dn_rowB {f : Hp} {H : Hp} {b : Bool} {v : V} {ds : List PyData} (h : Dn K f v (rowB b ds)) : ∃ a xs, v = .ref a ∧ DnA K f xs ds ∧ ((b = true ∧ SqT K f a xs) ∨ (b = false ∧ f a = some (.lst xs))) := by
  unfold rowB at h
  cases b with
  | true =>
    cases (show Dn K f v (.tuple ds) from h) with
    | @tup a xs _ e1 h2 => exact ⟨a, xs, rfl, h2, .inl ⟨rfl, e1⟩⟩
  | false =>
    cases (show Dn K f v (.list ds) from h) with
    | @lst a xs _ e1 h2 => exact ⟨a, xs, rfl, h2, .inr ⟨rfl, e1⟩⟩
theorem sqB_of {f H : Hp} {b : Bool} {a : Addr} {xs : List V} (s : Same f H) (h : (b = true ∧ SqT K f a xs) ∨ (b = false ∧ f a = some (.lst xs))) : SqB K H b a xs := by
  unfold SqB
  rcases h with ⟨rfl, e⟩ | ⟨rfl, e⟩
  · exact Same.sqt s e
  · exact .inl (.inl (s _ _ e))
end
end DL
/-! any of a tuple of whole numbers. -/
namespace DL
open PySem PySem.Spec PyProof.Rows L2
section
variable {K : PySem.W.Frag} {B : Bs} {G : List Hp} {L : List Addr} {Γ : List Sl} {k : PyData → Prop}
end
end DL
/-! Two rows at once, each a list or a tuple, of one length: loops and comprehensions. -/
namespace DL
open PySem PySem.Spec PyProof.Rows L2 RZ
def Itz2 (K : PySem.W.Frag) (b1 b2 : Bool) (a b : Addr) : It :=
  ⟨fun i H => ∃ (xs ys : List V) (x y : V), SqB K H b1 a xs ∧ SqB K H b2 b ys ∧ xs[i]? = some x ∧ ys[i]? = some y,
    fun i H v H' => ∃ T x y, v = .ref T ∧ H T = none ∧ H' = upd H T (.tup [x, y]) ∧ (∀ xs, SqB K H b1 a xs → xs[i]? = some x) ∧ ∀ ys, SqB K H b2 b ys → ys[i]? = some y,
    fun i H => ∃ xs ys : List V, SqB K H b1 a xs ∧ SqB K H b2 b ys ∧ xs.length = i ∧ ys.length = i⟩
theorem sep2 (I l1 l2 : Nat) (h1 : l1 < I) (h2 : l2 < I) : ZipSep2 (I + 4) (I + 2) (I + 3) I (I + 1) [I, l1] [I + 1, l2] := by
  constructor <;> simp <;> (try constructor) <;> (try intro q) <;> (try (have q : (_ : Nat) = _ := q)) <;> omega
theorem turn_zip2 {P : Program} {w : World} {K : PySem.W.Frag} {elts : List Expr} {kk : Nat} {tpos : Pos} {b1 b2 : Bool} {a b z TI TO i1 i2 : Addr} (D : ZipSep2 z TI TO i1 i2 [i1, a] [i2, b]) (n1 : a ≠ i1) (n2 : b ≠ i2) :
    Turn P w K (.Tuple elts kk tpos) (Itz2 K b1 b2 a b) [z, TI, TO, i1, i2] z (fun i h => IsZip h z TI TO .none ∧ IsTupOf2 h TI (.ref i1) (.ref i2) ∧ (∃ x y, IsTupOf2 h TO x y) ∧ ItB h b1 i1 a i ∧ ItB h b2 i2 b i) where
  mem := by simp
  obj := fun i h st d hc => by
    obtain ⟨hz, hTI, ⟨x, y, hTO⟩, h1, h2⟩ := st
    obtain ⟨o1, e1, d1⟩ := h1.ob
    obtain ⟨o2, e2, d2⟩ := h2.ob
    have e' : d = z ∨ d = TI ∨ d = TO ∨ d = i1 ∨ d = i2 := by simpa using hc
    rcases e' with q | q | q | q | q
    · rw [q]; exact ⟨_, hz, fun v q => nomatch q⟩
    · rw [q]; exact ⟨_, hTI, fun v q => nomatch q⟩
    · rw [q]; exact ⟨_, hTO, fun v q => nomatch q⟩
    · rw [q]; exact ⟨o1, e1, fun v q => by rw [d1] at q; cases q⟩
    · rw [q]; exact ⟨o2, e2, fun v q => by rw [d2] at q; cases q⟩
  keep := fun i h h' st k => by
    obtain ⟨hz, hTI, ⟨x, y, hTO⟩, h1, h2⟩ := st
    exact ⟨k z (by simp) _ hz, k TI (by simp) _ hTI, ⟨x, y, k TO (by simp) _ hTO⟩, h1.at fun o q => k i1 (by simp) o q, h2.at fun o q => k i2 (by simp) o q⟩
  item := by
    intro X hP hw hK hc i pins s σ H E I hf st hg
    subst hP hw hK
    obtain ⟨hz, hTI, ⟨x0, y0, hTO⟩, h1, h2⟩ := st
    obtain ⟨xs, ys, x, y, qx, qy, hx, hy⟩ := hg
    obtain ⟨t1, p1, l1, g1, _⟩ := inv_seqB I qx
    obtain ⟨t2, p2, l2, g2, _⟩ := inv_seqB I qy
    obtain ⟨u1, hu1, r1⟩ := g1 i x hx
    obtain ⟨u2, hu2, r2⟩ := g2 i y hy
    have hzl : z < s.heap.objs.size := Heap.lt_size hz
    have hh : X.A.in1.handled = none := I.ok.hd hc
    have D1 := drawsB (prog := X.prog) (w := X.w) hh b1 i1 a n1 t1.toArray
    have D2 := drawsB (prog := X.prog) (w := X.w) hh b2 i2 b n2 t2.toArray
    refine wpAny_pyNext_zipD2_item D D1 D2 hz hTI hTO ⟨h1, p1⟩ ⟨h2, p2⟩
      (show i < t1.toArray.size by simpa using (List.getElem?_eq_some_iff.mp hu1).1) (show i < t2.toArray.size by simpa using (List.getElem?_eq_some_iff.mp hu2).1) fun w1 w2 h' tk e1 e2 z' TO' s1 s2 hT hsz hk => ?_
    have e1 : w1 = u1 := by
      have : t1[i]? = some w1 := by simpa using e1
      rw [hu1] at this
      exact (Option.some.inj this).symm
    have e2 : w2 = u2 := by
      have : t2[i]? = some w2 := by simpa using e2
      rw [hu2] at this
      exact (Option.some.inj this).symm
    subst e1 e2
    refine ⟨_, rfl, wpAny_letOwnedTupleGo_zip (s := { s with heap := h', toks := tk }) z' fun h'' z'' sb => ?_⟩
    have hT2 : h''.get? s.heap.objs.size = some { cls := .type "tuple", data := .seq #[w1, w2] } := (sb.2 _ (Nat.ne_of_gt hzl)).trans hT
    have new : ObjOk X.prog X.w (upd H s.heap.objs.size (.tup [x, y])) h'' s.heap.objs.size (.tup [x, y]) :=
      ⟨by show 2 ≤ sizeLine; decide, [w1, w2], .cons r1 (.cons r2 .nil), ⟨_, hT2, rfl, _, rfl⟩⟩
    have I1 : Inv X pins σ (upd H s.heap.objs.size (.tup [x, y])) { s with heap := h'', toks := tk } :=
      I.turnedNew (t' := tk) (ch := [z, TI, TO, i1, i2]) (fun c o hb q => (sb.2 c (fun q' => hb (by simp [q']))).trans (hk c o (fun q' => hb (by simp [q'])) (fun q' => hb (by simp [q'])) (fun q' => hb (by simp [q'])) (fun q' => hb (by simp [q'])) q)) hf (Nat.le_refl _) new
    have k1 : i1 ≠ z := D.zi1.symm
    have k2 : i2 ≠ z := D.zi2.symm
    refine ⟨.ref s.heap.objs.size, _, I1, rfl, ⟨_, x, y, rfl, I.hok.fresh (Nat.le_refl _), rfl, fun l hl => by rw [inv_injB I hl qx]; exact hx, fun l hl => by rw [inv_injB I hl qy]; exact hy⟩, ⟨z'', ?_, ⟨w1, w2, ?_⟩, ?_, ?_⟩, fun c hcm => ?_⟩
    · exact (sb.2 _ D.TIz).trans (hk _ _ D.TIz D.TITO D.TIi1 D.TIi2 hTI)
    · exact (sb.2 _ D.TOz).trans TO'
    · exact s1.1.at fun o q => (sb.2 _ k1).trans q
    · exact s2.1.at fun o q => (sb.2 _ k2).trans q
    · have hlt : c < s.heap.objs.size := by
        have e' : c = z ∨ c = TI ∨ c = TO ∨ c = i1 ∨ c = i2 := by simpa using hcm
        rcases e' with q | q | q | q | q
        · rw [q]; exact hzl
        · rw [q]; exact Heap.lt_size hTI
        · rw [q]; exact Heap.lt_size hTO
        · rw [q]; obtain ⟨_, e1, _⟩ := h1.ob; exact Heap.lt_size e1
        · rw [q]; obtain ⟨_, e2, _⟩ := h2.ob; exact Heap.lt_size e2
      rw [upd_ne (Nat.ne_of_lt hlt)]
      exact (hf c hcm).1
  done := by
    intro X hP hw hK hc i pins s σ H E I hf st hg
    subst hP hw hK
    obtain ⟨hz, hTI, ⟨x0, y0, hTO⟩, h1, h2⟩ := st
    obtain ⟨xs, ys, qx, qy, lx, ly⟩ := hg
    obtain ⟨t1, p1, l1, g1, _⟩ := inv_seqB I qx
    obtain ⟨t2, p2, l2, g2, _⟩ := inv_seqB I qy
    have hh : X.A.in1.handled = none := I.ok.hd hc
    have D1 := drawsB (prog := X.prog) (w := X.w) hh b1 i1 a n1 t1.toArray
    have D2 := drawsB (prog := X.prog) (w := X.w) hh b2 i2 b n2 t2.toArray
    exact wpAny_pyNext_zipD2_end D D1 D2 hz hTI hTO ⟨h1, p1⟩ ⟨h2, p2⟩
      (show i ≤ t1.toArray.size by simp; omega) (show i ≤ t2.toArray.size by simp; omega) (.inl (show i = t1.toArray.size by simp; omega)) fun h' tk hk => ⟨rfl, I.turnedL (t' := tk) (ch := [z, TI, TO, i1, i2]) (fun c o hb q =>
      hk c o (fun q' => hb (by simp [q'])) (fun q' => hb (by simp [q'])) (fun q' => hb (by simp [q'])) (fun q' => hb (by simp [q'])) q) hf⟩
  self := fun A i s Q E st h => wpAny_pyIter_zip st.1 h
def iZip2 (K : PySem.W.Frag) (ta : TA) : TI := fun σ H R => ta σ H fun vs H1 => ∃ (a b : Addr) (b1 b2 : Bool) (xs ys : List V), vs = [.ref a, .ref b] ∧ SqB K H1 b1 a xs ∧ SqB K H1 b2 b ys ∧ R (Itz2 K b1 b2 a b) H1
theorem pi_zip2 {X : Cx} {e e2 : Expr} {ta : TA} {p pos tpos : Pos} {elts : List Expr} {kk : Nat} (hg : Gl X "zip") (hm : X.mg "zip" = none) (ha : PA X [e, e2] ta)
    (hs : starEach [e, e2] X.env = (false, eval e X.env) :: starEach [e2] X.env := by rfl) (hpl : (backTo pos (starEach [e2] X.env)).any (·.1) = false := by rfl) :
    PI X (.Tuple elts kk tpos) (.Call (.Name "zip" p) [e, e2] [] pos) (iZip2 X.K ta) := by
  refine ⟨fun pins s σ H R I h => ?_⟩
  refine Call_ (ld_blt I hg hm PyProof.Rows.boot_zip (PyProof.Rows.callWith_type1 (thn (ha.run pos pins s σ H _ I h) fun us s1 ⟨vs, H1, I1, r1, q1⟩ => ?_) hs hpl))
  obtain ⟨a, b, b1, b2, xs, ys, ex, qx, qy, q⟩ := q1
  subst ex
  cases r1 with
  | cons r rr =>
    cases rr with
    | cons r' rr =>
      cases rr
      cases r
      cases r'
      have fresh : ∀ d, d ∈ [s1.heap.objs.size + 4, s1.heap.objs.size + 2, s1.heap.objs.size + 3, s1.heap.objs.size, s1.heap.objs.size + 1] → FpOk X pins H1 d := fun d hd => by
        have hle : s1.heap.objs.size ≤ d := by
          have e' : d = s1.heap.objs.size + 4 ∨ d = s1.heap.objs.size + 2 ∨ d = s1.heap.objs.size + 3 ∨ d = s1.heap.objs.size ∨ d = s1.heap.objs.size + 1 := by simpa using hd
          rcases e' with z | z | z | z | z
          · rw [z]; exact Nat.le_add_right _ _
          · rw [z]; exact Nat.le_add_right _ _
          · rw [z]; exact Nat.le_add_right _ _
          · rw [z]; exact Nat.le_refl _
          · rw [z]; exact Nat.le_add_right _ _
        exact I1.fpOk hle (I1.hok.fresh hle)
      obtain ⟨t1, p1, _, _, g1⟩ := inv_seqB I1 qx
      obtain ⟨t2, p2, _, _, g2⟩ := inv_seqB I1 qy
      refine zip_begins2 (beginsB b1 a t1.toArray) (beginsB b2 b t2.toArray) p1 p2 fun h' hz hTI hTO e1 e2 hsz hk => wpAny_pyIter_zip hz ?_
      have I2 : Inv X pins σ H1 { s1 with heap := h' } := I1.kept (t' := s1.toks) hk
      exact ⟨s1.heap.objs.size + 4, [s1.heap.objs.size + 4, s1.heap.objs.size + 2, s1.heap.objs.size + 3, s1.heap.objs.size, s1.heap.objs.size + 1], _, _, H1, rfl, I2, turn_zip2 (sep2 s1.heap.objs.size a b g1 g2) (Nat.ne_of_lt g1) (Nat.ne_of_lt (Nat.lt_succ_of_lt g2)), ⟨hz, hTI, ⟨_, _, hTO⟩, itB_new e1, itB_new e2⟩, fresh, q⟩
theorem for_zip2 {K : PySem.W.Frag} {b1 b2 : Bool} {a b : Addr} {xs ys : List V} {g : TG} {tb : TS} {D : Ends} {σ : L2.St} {H : Hp} (l1 : xs.length = ys.length) (Pv : Nat → L2.St → Hp → Prop) (h0 : Pv 0 σ H) (hq : ∀ i σ H, Pv i σ H → SqB K H b1 a xs ∧ SqB K H b2 b ys)
    (hs : ∀ (i : Nat) (x y : V) (T : Addr) (σ : L2.St) (H : Hp), xs[i]? = some x → ys[i]? = some y → Pv i σ H → H T = none → g (.ref T) σ (upd H T (.tup [x, y])) fun σ2 H2 => tb { D with nx := Pv (i + 1), ct := Pv (i + 1), bk := D.nx } σ2 H2) (hd : ∀ σ H, Pv xs.length σ H → D.nx σ H) :
    ∃ W : Nat → Nat → L2.St → Hp → Prop, (∃ m, W 0 m σ H) ∧ ∀ i m σ H, W i m σ H →
      ((Itz2 K b1 b2 a b).stop i H ∧ D.nx σ H) ∨ ((Itz2 K b1 b2 a b).go i H ∧ ∃ N : L2.St → Hp → Prop, (∀ σ' H', N σ' H' → ∃ m', m' < m ∧ W (i + 1) m' σ' H') ∧ ∀ v H', (Itz2 K b1 b2 a b).yld i H v H' → g v σ H' fun σ2 H2 => tb { D with nx := N, ct := N, bk := D.nx } σ2 H2) := by
  refine ⟨fun i m σ H => m = xs.length - i ∧ i ≤ xs.length ∧ Pv i σ H, ⟨xs.length, rfl, Nat.zero_le _, h0⟩, ?_⟩
  rintro i m σ H ⟨rfl, hi, p⟩
  obtain ⟨qx, qy⟩ := hq i σ H p
  by_cases hlt : i < xs.length
  · have hx : xs[i]? = some xs[i] := List.getElem?_eq_getElem hlt
    have hy : ys[i]? = some ys[i] := List.getElem?_eq_getElem (by omega)
    refine .inr ⟨⟨xs, ys, _, _, qx, qy, hx, hy⟩, Pv (i + 1), fun σ' H' p' => ⟨xs.length - (i + 1), by omega, rfl, hlt, p'⟩, fun v H' y => ?_⟩
    obtain ⟨T, x', y', rfl, hT, rfl, f1, f2⟩ := y
    exact hs i x' y' T σ H (f1 xs qx) (f2 ys qy) p hT
  · have e : i = xs.length := by omega
    subst e
    exact .inl ⟨⟨xs, ys, qx, qy, rfl, by omega⟩, hd σ H p⟩
theorem lc_zip2 {K : PySem.W.Frag} {b1 b2 : Bool} {a b : Addr} {xs ys : List V} {g : TG} {tt : TT} {te : TE} {vs : List Nat} {σ : L2.St} {H1 : Hp} {D : Addr} {Qd : Hp → Prop} (l1 : xs.length = ys.length) (Pv : Nat → Hp → Prop) (h0 : Pv 0 (upd H1 D (.lst []))) (hl : ∀ i H, i ≤ xs.length → Pv i H → SqB K H b1 a xs ∧ SqB K H b2 b ys)
    (hs : ∀ (i : Nat) (x y : V) (T : Addr) (H : Hp), xs[i]? = some x → ys[i]? = some y → Pv i H → H T = none → g (.ref T) (L2.wipe σ vs) (upd H T (.tup [x, y])) fun σ2 H2 => L2.wipe σ2 vs = L2.wipe σ vs ∧ tt σ2 H2 fun b H3 =>
      if b = true then te σ2 H3 fun y H4 => ∃ acc, H4 D = some (.lst acc) ∧ acc.length < sizeLine ∧ Pv (i + 1) (upd H4 D (.lst (acc ++ [y]))) else Pv (i + 1) H3) (hd : ∀ H, Pv xs.length H → Qd H) :
    ∃ W : Nat → Nat → Hp → Prop, (∃ m, W 0 m (upd H1 D (.lst []))) ∧ ∀ i m H, W i m H →
      ((Itz2 K b1 b2 a b).stop i H ∧ Qd H) ∨ ((Itz2 K b1 b2 a b).go i H ∧ ∃ Nx : Hp → Prop, (∀ H', Nx H' → ∃ m', m' < m ∧ W (i + 1) m' H') ∧ ∀ x H', (Itz2 K b1 b2 a b).yld i H x H' → g x (L2.wipe σ vs) H' fun σ2 H2 => L2.wipe σ2 vs = L2.wipe σ vs ∧ tt σ2 H2 fun b H3 =>
        if b = true then te σ2 H3 fun y H4 => ∃ acc, H4 D = some (.lst acc) ∧ acc.length < sizeLine ∧ Nx (upd H4 D (.lst (acc ++ [y]))) else Nx H3) := by
  refine ⟨fun i m H => m = xs.length - i ∧ i ≤ xs.length ∧ Pv i H, ⟨xs.length, by simp, Nat.zero_le _, h0⟩, ?_⟩
  rintro i m H ⟨rfl, hi, p⟩
  obtain ⟨qx, qy⟩ := hl i H hi p
  by_cases hlt : i < xs.length
  · have hx : xs[i]? = some xs[i] := List.getElem?_eq_getElem hlt
    have hy : ys[i]? = some ys[i] := List.getElem?_eq_getElem (by omega)
    refine .inr ⟨⟨xs, ys, _, _, qx, qy, hx, hy⟩, Pv (i + 1), fun H' p' => ⟨xs.length - (i + 1), by omega, rfl, hlt, p'⟩, fun v H' y => ?_⟩
    obtain ⟨T, x', y', rfl, hT, rfl, f1, f2⟩ := y
    exact hs i x' y' T H (f1 xs qx) (f2 ys qy) p hT
  · have e : i = xs.length := by omega
    subst e
    exact .inl ⟨⟨xs, ys, qx, qy, rfl, by omega⟩, hd H p⟩
section
variable {K : PySem.W.Frag} {B : Bs} {G : List Hp} {L : List Addr} {Γ : List Sl} {H H' H2 : Hp} {σ : L2.St}
variable {te ta tb tc tl : TE} {tt tu : TT} {tr : TA} {k : PyData → Prop} {x y : PyData} {P P' : PD} {t u : TS}
/-- for a, b in zip of two rows of one length -/
theorem st_forZ2 {j1 j2 : Nat} (h : EvA K B G L Γ tr fun vs => ∃ (b1 b2 : Bool) (ds es : List PyData), vs = [rowB b1 ds, rowB b2 es] ∧ ds.length = es.length ∧ ∃ I : Nat → List Addr → List Sl → Prop, I 0 L Γ ∧
    (∀ i d e L' Γ' g, ds[i]? = some d → es[i]? = some e → I i L' Γ' → StP K B (g :: G) L' ((Γ'.set j1 (.d d)).set j2 (.d e)) t (P.inLoop (I (i + 1)))) ∧ ∀ L' Γ', I ds.length L' Γ' → P.nx L' Γ') :
    StP K B G L Γ (tFor (iZip2 K tr) (gTup K 2 (gCons (gName j1) (gCons (gName j2) gNil))) t) P := fun σ H D E M =>
  h σ H _ E fun vs dd H1 g1 dn ⟨b1, b2, ds, es, e, le, I, h0, hs, hd⟩ => by
    subst e
    cases dn with
    | cons d1 dn =>
      cases dn with
      | cons d2 dn =>
        cases dn
        obtain ⟨a1, x1, rfl, h1, q1⟩ := dn_rowB (H := H1) d1
        obtain ⟨a2, x2, rfl, h2, q2⟩ := dn_rowB (H := H1) d2
        have E1 := g1.env.gpush
        have l1 := h1.length
        have l2 := h2.length
        refine ⟨a1, a2, b1, b2, x1, x2, rfl, sqB_of (hid_sub _ _) q1, sqB_of (hid_sub _ _) q2, for_zip2 (xs := x1) (ys := x2) (by omega) (fun i σ' H' => ∃ L' Γ', I i L' Γ' ∧ Env K B (hid (L ++ B.M) H1 :: G) L' H' σ' Γ') ⟨L, Γ, h0, E1⟩ (fun i σ' H' ⟨L', Γ', _, E'⟩ => ?_) (fun i x y T σ' H' hx hy ⟨L', Γ', hI, E'⟩ hT => ?_) (fun σ' H' ⟨L', Γ', hI, E'⟩ => ?_)⟩
        · have s := (E'.gh _ (List.mem_cons_self ..)).trans (hid_sub _ _)
          exact ⟨sqB_of s q1, sqB_of s q2⟩
        · obtain ⟨d, e1, n1⟩ := h1.getV hx
          obtain ⟨e, e2, n2⟩ := h2.getV hy
          have gn := Go.new (o := .tup [x, y]) E' hT
          have E2 := gn.env
          have s := E2.gh _ (List.mem_cons_self ..)
          refine ⟨T, _, rfl, .inl (.inl upd_same), rfl, _, _, rfl, _, _, rfl, rfl, ?_⟩
          refine hs i d e L' Γ' _ e1 e2 hI _ _ _ ((E2.put j1 (n1.mono s)).put j2 (n2.mono s)) ⟨fun L2 Γ2 σ2 H2 q E2 => ⟨L2, Γ2, q, E2⟩, M.rt, fun L2 Γ2 σ2 H2 q E2 => M.nx _ _ _ _ q E2.gpop, fun L2 Γ2 σ2 H2 q E2 => ⟨L2, Γ2, q, E2⟩⟩
        · rw [l1] at hI
          exact M.nx _ _ _ _ (hd L' Γ' hI) E'.gpop
/-- [.. for a, b in zip of two rows of one length if ..] -/
theorem en_lcZ2 {j m : Nat} {vs : List Nat} {kl : List PyData → Prop} (hw : ∀ (σ : L2.St) x y, L2.wipe (((L2.wipe σ vs).set j (some x)).set m (some y)) vs = L2.wipe σ vs)
    (h : EvA K B G L Γ tr fun ws => ∃ (b1 b2 : Bool) (ds es : List PyData), ws = [rowB b1 ds, rowB b2 es] ∧ ds.length = es.length ∧ ds.length ≤ 100000 ∧ ∃ J, CompOk2 K B G L Γ j m tt te vs ds.length (fun i x y => ds[i]? = some x ∧ es[i]? = some y) J ∧ ∀ acc, J ds.length acc → kl acc) :
    EvN K B G L Γ (tLc (iZip2 K tr) (gTwo K j m) tt te vs) kl := fun σ H Q E q =>
  h σ H _ E fun ws dd H1 g1 dn ⟨b1, b2, ds, es, e, le, hl, J, C, hk⟩ => by
    subst e
    cases dn with
    | cons d1 dn =>
      cases dn with
      | cons d2 dn =>
        cases dn
        obtain ⟨a1, x1, rfl, h1, q1⟩ := dn_rowB (H := H1) d1
        obtain ⟨a2, x2, rfl, h2, q2⟩ := dn_rowB (H := H1) d2
        have l1 := h1.length
        have l2 := h2.length
        refine ⟨a1, a2, b1, b2, x1, x2, rfl, sqB_of (hid_sub _ _) q1, sqB_of (hid_sub _ _) q2, fun D hD => lc_zip2 (xs := x1) (ys := x2) (by omega) (fun i H' => Sofar K B L H1 H' D i J)
          ⟨fun a o w e => same_upd hD a o e, fun w hw => ?_, [], [], C.1, Nat.le_refl _, upd_same, .nil⟩ (fun i H' _ S => ?_) (fun i x y T H' hx hy S hT => ?_) (fun H' S => ?_)⟩
        · obtain ⟨n, b, c, e, q⟩ := g1.env.ws w hw
          exact ⟨n, b, c, same_upd hD _ _ e, q⟩
        · have g0 : Go K B G L Γ H1 H' σ := Go.of_rel g1.env S.rl S.ws
          have s := g0.sm.trans (hid_sub _ _)
          exact ⟨sqB_of s q1, sqB_of s q2⟩
        · obtain ⟨d, e1, n1⟩ := h1.getV hx
          obtain ⟨e, e2, n2⟩ := h2.getV hy
          exact comp_turnE g1.env hD C hl hw (S.newT g1.env hD hT) ⟨e1, e2⟩ (List.getElem?_eq_some_iff.mp e1).1 (.inl (.inl upd_same)) n1 n2
        · have g0 : Go K B G L Γ H1 H' σ := Go.of_rel g1.env S.rl S.ws
          obtain ⟨accV, acc, hJ, _, e, dA⟩ := S.it
          rw [l1] at hJ
          exact q D accV acc H' (g1.trans g0) (Go.fresh E g1 hD) e dA (hk acc hJ)
end
end DL
/-! A module's table of constant rows; comprehensions with three targets over a tuple of tuples. -/
namespace DL
open PySem PySem.Spec PyProof.Rows L2
def CTs (K : PySem.W.Frag) : List Addr → List PyData → Prop
  | [], [] => True
  | a :: as, d :: ds => CT K a d ∧ CTs K as ds
  | _, _ => False
theorem cts_dn {K : PySem.W.Frag} {H : Hp} : ∀ {as : List Addr} {ds : List PyData}, CTs K as ds → DnA K H (as.map V.ref) ds
  | [], [], _ => .nil
  | a :: as, d :: ds, h => .cons (h.1 H) (cts_dn h.2)
theorem vals_refs : ∀ as : List Addr, Vals (as.map V.ref) (as.map Value.ref)
  | [] => .nil
  | a :: as => .cons rfl (vals_refs as)
theorem ct_rows {K : PySem.W.Frag} {a : Addr} {od : Option Addr} {n : Nat} {sl : Array (Option Value)} {as : List Addr} {ds : List PyData} (h : K.lookup a = some ⟨.type "tuple", od, .seq (as.map Value.ref).toArray n, sl⟩) (hl : as.length ≤ 1000) (hc : CTs K as ds) : CT K a (.tuple ds) := fun H =>
  .tup (xs := as.map V.ref) (.inr ⟨_, _, _, h, rfl, rfl, by rw [List.size_toArray, List.length_map]; exact Nat.le_trans hl (by decide), by simpa using vals_refs as⟩) (cts_dn hc)
section
variable {K : PySem.W.Frag} {B : Bs} {G : List Hp} {L : List Addr} {Γ : List Sl} {H H' H2 : Hp} {σ : L2.St}
variable {te ta tb tc tl : TE} {tt tu : TT} {tr : TA} {k : PyData → Prop} {x y : PyData} {P P' : PD} {t u : TS}
abbrev gThree (K : PySem.W.Frag) (j m l : Nat) : TG := gTup K 3 (gCons (gName j) (gCons (gName m) (gCons (gName l) gNil)))
def CompOk3 (K : PySem.W.Frag) (B : Bs) (G : List Hp) (L : List Addr) (Γ : List Sl) (j m l : Nat) (tt : TT) (te : TE) (vs : List Nat) (n : Nat) (item : Nat → PyData → PyData → PyData → Prop) (J : Nat → List PyData → Prop) : Prop :=
  J 0 [] ∧ ∀ i D x y z acc, item i x y z → J i acc → i < n → EvT K B G (D :: L) ((((wipeG Γ vs).set j (.d x)).set m (.d y)).set l (.d z)) tt fun b =>
    (b = true → EvP K B G (D :: L) ((((wipeG Γ vs).set j (.d x)).set m (.d y)).set l (.d z)) te fun r => J (i + 1) (acc ++ [r])) ∧ (b = false → J (i + 1) acc)
theorem comp_turn3 {j m l n : Nat} {vs : List Nat} {item : Nat → PyData → PyData → PyData → Prop} {J : Nat → List PyData → Prop} {H1 : Hp} {D : Addr} {i : Nat} {x y z : PyData} (E1 : Env K B G L H1 σ Γ) (hD : H1 D = none) (C : CompOk3 K B G L Γ j m l tt te vs n item J) (hn : n ≤ 100000)
    (hw : ∀ (σ : L2.St) x y z, L2.wipe ((((L2.wipe σ vs).set j (some x)).set m (some y)).set l (some z)) vs = L2.wipe σ vs)
    (S : Sofar K B L H1 H' D i J) (hi : item i x y z) (hin : i < n) {a : Addr} {v1 v2 v3 : V} (e1 : SqT K H' a [v1, v2, v3]) (d1 : Dn K (hid (L ++ B.M) H1) v1 x) (d2 : Dn K (hid (L ++ B.M) H1) v2 y) (d3 : Dn K (hid (L ++ B.M) H1) v3 z) :
    gThree K j m l (.ref a) (L2.wipe σ vs) H' fun σ2 H2 => L2.wipe σ2 vs = L2.wipe σ vs ∧ tt σ2 H2 fun b H3 => if b = true then te σ2 H3 fun z H4 => ∃ acc, H4 D = some (.lst acc) ∧ acc.length < sizeLine ∧ Sofar K B L H1 (upd H4 D (.lst (acc ++ [z]))) D (i + 1) J else Sofar K B L H1 H3 D (i + 1) J := by
  obtain ⟨rl, ws, accV, acc, hJ, hlen, hDl, dA⟩ := S
  have g0 : Go K B G L Γ H1 H' σ := Go.of_rel E1 rl ws
  have ET := Env.temp E1 g0 hD hDl
  have hk0 : Same (hid (L ++ B.M) H1) (hid (D :: L ++ B.M) H') := g0.keepL E1 hD
  refine ⟨a, _, rfl, e1, rfl, v1, _, rfl, v2, _, rfl, v3, _, rfl, rfl, hw σ v1 v2 v3, ?_⟩
  have EW := (((ET.wipe vs).put j (d1.mono hk0)).put m (d2.mono hk0)).put l (d3.mono hk0)
  refine C.2 i D x y z acc hi hJ hin _ H' _ EW fun b H3 g3 ⟨c1, c2⟩ => ?_
  have D3 : H3 D = some (.lst accV) := g3.kp D (List.mem_cons_self ..) _ hDl
  cases b with
  | false =>
    refine iteF ⟨fun a o w e => g3.rl a o w (rl a o w e), g3.env.ws, accV, acc, c2 rfl, by omega, D3, dA.mono g3.sm⟩
  | true =>
    refine iteT (c1 rfl _ H3 _ g3.env fun y d H4 g4 dy hJ' => ?_)
    have D4 : H4 D = some (.lst accV) := g4.kp D (List.mem_cons_self ..) _ D3
    refine ⟨accV, D4, ?_, ?_⟩
    · rw [dA.length]
      exact Nat.lt_of_le_of_lt hlen (Nat.lt_of_lt_of_le (Nat.lt_of_lt_of_le hin hn) (by decide))
    · have hs : Same (hid (D :: (L ++ B.M)) H4) (hid (D :: (L ++ B.M)) (upd H4 D (.lst (accV ++ [y])))) := fun a o e => by
        obtain ⟨q, e⟩ := hid_some e
        rw [hid_out q, upd_ne (fun z => q (by rw [z]; exact List.mem_cons_self ..))]
        exact e
      have dW : D ∉ B.Ws := fun w => by
        obtain ⟨_, _, _, q, _⟩ := E1.ws D w
        rw [hD] at q; cases q
      refine ⟨fun a o w e => ?_, fun w hw => ?_, accV ++ [y], acc ++ [d], hJ', by rw [List.length_append]; exact Nat.succ_le_succ hlen, upd_same, ?_⟩
      · rw [upd_ne (ne_of_none e hD)]
        exact g4.rl a o w (g3.rl a o w (rl a o w e))
      · obtain ⟨n, b, c, e, q⟩ := g4.env.ws w hw
        exact ⟨n, b, c, by rw [upd_ne (fun (z : w = D) => dW (by rw [← z]; exact hw))]; exact e, q⟩
      · exact ((dA.mono g3.sm).mono g4.sm |>.append (.cons dy .nil)).mono hs
/-- [.. for a, b, c in a tuple of tuples if ..] -/
theorem en_lcT3 {j m l : Nat} {vs : List Nat} {kl : List PyData → Prop} (hw : ∀ (σ : L2.St) x y z, L2.wipe ((((L2.wipe σ vs).set j (some x)).set m (some y)).set l (some z)) vs = L2.wipe σ vs)
    (h : EvP K B G L Γ tl fun d => ∃ ds : List (PyData × PyData × PyData), d = .tuple (ds.map fun p => .tuple [p.1, p.2.1, p.2.2]) ∧ ds.length ≤ 100000 ∧ ∃ J, CompOk3 K B G L Γ j m l tt te vs ds.length (fun i x y z => ds[i]? = some (x, y, z)) J ∧ ∀ acc, J ds.length acc → kl acc) :
    EvN K B G L Γ (tLc (iTup K tl) (gThree K j m l) tt te vs) kl := fun σ H Q E q =>
  h σ H _ E fun v d H1 g1 dn ⟨ds, e, hl, J, C, hk⟩ => by
    subst e
    cases dn with
    | @tup a xs _ e1 h2 =>
      have lx := h2.length
      rw [List.length_map] at lx
      refine ⟨a, rfl, ⟨xs, Same.sqt (hid_sub _ _) e1⟩, fun D hD => lc_tup (xs := xs) (fun i H' => Sofar K B L H1 H' D i J)
        ⟨fun a o w e => same_upd hD a o e, fun w hw => ?_, [], [], C.1, Nat.le_refl _, upd_same, .nil⟩ (fun i H' _ S => ?_) (fun i x H' hi S => ?_) (fun H' S => ?_)⟩
      · obtain ⟨n, b, c, e, q⟩ := g1.env.ws w hw
        exact ⟨n, b, c, same_upd hD _ _ e, q⟩
      · have g0 : Go K B G L Γ H1 H' σ := Go.of_rel g1.env S.rl S.ws
        exact Same.sqt (hid_sub _ _) (Same.sqt g0.sm e1)
      · obtain ⟨d', e', dn'⟩ := h2.getV hi
        rw [List.getElem?_map] at e'
        cases e2 : ds[i]? with
        | none => rw [e2] at e'; cases e'
        | some p =>
          rw [e2] at e'
          cases e'
          have g0 : Go K B G L Γ H1 H' σ := Go.of_rel g1.env S.rl S.ws
          cases dn' with
          | @tup a2 ys _ e3 h3 =>
            cases h3 with
            | cons d1 h3 =>
              cases h3 with
              | cons d2 h3 =>
                cases h3 with
                | cons d3 h3 =>
                  cases h3
                  exact comp_turn3 g1.env hD C hl hw S e2 (List.getElem?_eq_some_iff.mp e2).1 (Same.sqt (hid_sub _ _) (Same.sqt g0.sm e3)) d1 d2 d3
      · have g0 : Go K B G L Γ H1 H' σ := Go.of_rel g1.env S.rl S.ws
        obtain ⟨accV, acc, hJ, _, e, dA⟩ := S.it
        rw [lx] at hJ
        exact q D accV acc H' (g1.trans g0) (Go.fresh E g1 hD) e dA (hk acc hJ)
theorem wipeE : ∀ (σ : L2.St) (x y z : V), L2.wipe ((((L2.wipe σ [1, 2]).set 1 (some x)).set 2 (some y)).set 1 (some z)) [1, 2] = L2.wipe σ [1, 2] := fun σ x y z => by
  have e := wipe2 1 2 σ z y
  have c : (((L2.wipe σ [1, 2]).set 1 (some x)).set 2 (some y)).set 1 (some z) = ((L2.wipe σ [1, 2]).set 1 (some z)).set 2 (some y) := by
    rw [List.set_comm _ _ (show (2 : Nat) ≠ 1 by decide), List.set_set]
  rw [c]
  exact e
end
end DL
/-! A row that is a list or a tuple. -/
namespace DL
open PySem PySem.Spec PyProof.Rows L2
theorem pi_or {X : Cx} {tg e : Expr} {t1 t2 : TI} (h1 : PI X tg e t1) (h2 : PI X tg e t2) : PI X tg e (fun σ H R => t1 σ H R ∨ t2 σ H R) :=
  ⟨fun pins s σ H R I h => h.elim (fun h => h1.run pins s σ H R I h) (fun h => h2.run pins s σ H R I h)⟩
def iSeq (K : PySem.W.Frag) (t : TE) : TI := fun σ H R => iList K t σ H R ∨ iTup K t σ H R
theorem pi_seq {X : Cx} {tg l : Expr} {tl : TE} (hl : PE X l tl) : PI X tg l (iSeq X.K tl) := pi_or (pi_list hl) (pi_tup hl)
section
variable {K : PySem.W.Frag} {B : Bs} {G : List Hp} {L : List Addr} {Γ : List Sl} {H H' H2 : Hp} {σ : L2.St}
variable {te ta tb tc tl : TE} {tt tu : TT} {tr : TA} {k : PyData → Prop} {x y : PyData} {P P' : PD} {t u : TS}
theorem st_forS {j : Nat} (b : Bool) (h : EvP K B G L Γ tl fun d => ∃ ds, d = rowB b ds ∧ ∃ I : Nat → List Addr → List Sl → Prop, I 0 L Γ ∧
    (∀ i d' L' Γ' g, ds[i]? = some d' → I i L' Γ' → StP K B (g :: G) L' (Γ'.set j (.d d')) t (P.inLoop (I (i + 1)))) ∧ ∀ L' Γ', I ds.length L' Γ' → P.nx L' Γ') :
    StP K B G L Γ (tFor (iSeq K tl) (gName j) t) P := fun σ H D E M => by
  cases b with
  | true => exact .inr (st_forT h σ H D E M)
  | false => exact .inl (st_forL h σ H D E M)
theorem en_lcS {j : Nat} {vs : List Nat} {kl : List PyData → Prop} (b : Bool) (hw : ∀ (σ : L2.St) x, L2.wipe ((L2.wipe σ vs).set j (some x)) vs = L2.wipe σ vs)
    (h : EvP K B G L Γ tl fun d => ∃ ds, d = rowB b ds ∧ ds.length ≤ 100000 ∧ ∃ J, CompOk K B G L Γ j tt te vs ds.length (fun i d' => ds[i]? = some d') J ∧ ∀ acc, J ds.length acc → kl acc) :
    EvN K B G L Γ (tLc (iSeq K tl) (gName j) tt te vs) kl := fun σ H Q E q => by
  cases b with
  | true => exact .inr (en_lcT hw h σ H Q E q)
  | false => exact .inl (en_lcL hw h σ H Q E q)
end
end DL
/-! The bottoms of a run's angles. -/
namespace Px
open PySem DL Mx L2
theorem num_line {dd ss : List Fr} (h : LN dd ss) : Num (jv dd) (jv ss) (dd.length - 1) := by
  have h1 := h.c1
  have h2 := h.len
  have e : dd.length - 1 + 1 = dd.length := by omega
  exact ⟨fun i hi => h.jpos (by omega), fun i a b => h.kpos a (by omega), h.knn (by omega), by rw [e]; exact h.knn (by omega)⟩
theorem tn_one {J K : Nat → Rat} {n : Nat} (N : Num J K n) : ∀ i, i ≤ n → tq J K i 0 = K 0 ∧ 1 ≤ tn J K i 0
  | 0, _ => by
    unfold tq tn Mx.run
    exact ⟨by simp, by simp⟩
  | i + 1, h => by
    obtain ⟨a, b⟩ := tn_one N i (by omega)
    have e : tq J K (i + 1) 0 = K 0 := by
      rw [tq_succ, a]
      show K 0 - J i * 0 = K 0
      grind
    refine ⟨e, ?_⟩
    rw [tn_succ, e]
    have kp := N.k (i + 1) (by omega) h
    have : 0 ≤ K 0 / K (i + 1) := by
      rw [Rat.div_def]
      exact Rat.mul_nonneg N.k0 (Rat.le_of_lt (Rat.inv_pos.mpr kp))
    grind
theorem bot_lt {J K : Nat → Rat} {n i e : Nat} {u : List Int} {S : Int} (N : Num J K n) (hi : i ≤ n) (h : Rel S u (tn J K i)) (hb : bd u e) (hl : 0 < u.length) : S.natAbs < 2 ^ e := by
  have a := h.at_ 0
  have b := (tn_one N i hi).2
  have sp := h.pos
  have s0 : (0 : Rat) < (S : Rat) := ratInt_pos sp
  have le : (S : Rat) ≤ ((u.getD 0 0 : Int) : Rat) := by
    rw [a]
    have := Rat.mul_le_mul_of_nonneg_left b (Rat.le_of_lt s0)
    grind
  have le := Rat.intCast_le_intCast.mp le
  have m : (u.getD 0 0).natAbs < 2 ^ e := by
    rw [List.getD_eq_getElem?_getD, List.getElem?_eq_getElem hl]
    exact hb _ (List.getElem_mem hl)
  omega
end Px
namespace Px
open PySem PySem.Spec PyProof.Rows L2 DL Mx
/-! runs by values, rows thinned together -/
theorem pe_fev' (x : Rat) : ∀ (n : Nat) (u : List Rat), u.length = n → pe u x = fev (fun k => u.getD k 0) x n
  | 0, [], _ => rfl
  | n + 1, a :: u, h => by
    rw [fev_head, pe_tail]
    have := pe_fev' x n u (by simpa using h)
    rw [this]
    rfl
theorem pI_fev (u : List Int) (x : Rat) : pI u x = fev (fun k => ((u.getD k 0 : Int) : Rat)) x u.length := by
  unfold pI
  rw [pe_fev' x u.length (ri u) (by unfold ri; rw [List.length_map])]
  exact fev_congr (fun k => ri_get u k) _
theorem ang_val {dd ss : List Fr} (h : LN dd ss) {as : List (List Int × Int)} {ts : List (List Int)} (P : PLists dd ss dd.length as ts) {j : Nat} {p : List Int × Int} (hp : as[j]? = some p) (x : Rat) : pI p.1 x = (p.2 : Rat) * xa (jv dd) (jv ss) x j := by
  obtain ⟨r, l, _⟩ := P.pa j p hp
  have N := num_line h
  have hj : j < dd.length := by have := (List.getElem?_eq_some_iff.mp hp).1; rw [P.la] at this; exact this
  have := (fev_run (J := jv dd) (K := jv ss) (p := x) j (fun i hi => N.j i (by omega)) (fun i h0 hi => N.k i h0 (by omega))).1
  rw [pI_fev, l, ← this]
  have e : fev (fun k => ((p.1.getD k 0 : Int) : Rat)) x (j + 1) = fev (fun k => (p.2 : Rat) * tn (jv dd) (jv ss) j k + 0 * tn (jv dd) (jv ss) j k) x (j + 1) := fev_congr (fun k => by rw [r.at_ k]; grind) _
  rw [e, fev_lin]
  grind
theorem ang_bot {dd ss : List Fr} (h : LN dd ss) {as : List (List Int × Int)} {ts : List (List Int)} (P : PLists dd ss dd.length as ts) {j : Nat} {p : List Int × Int} (hp : as[j]? = some p) : 0 < p.2 ∧ p.2.natAbs < 2 ^ 974 ∧ p.1.getD 0 0 ≠ 0 ∧ n1 p.1 < 2 ^ 980 ∧ p.1.length ≤ 8 := by
  obtain ⟨r, l, b⟩ := P.pa j p hp
  have N := num_line h
  have h8 := h.c8
  have hj : j < dd.length := by have := (List.getElem?_eq_some_iff.mp hp).1; rw [P.la] at this; exact this
  have b1 := bot_lt N (i := j) (by omega) r b (by omega)
  have o := (tn_one N j (by omega)).2
  have sp := ratInt_pos r.pos
  refine ⟨r.pos, pow_up b1 (by omega), fun z => ?_, ?_, by omega⟩
  · have := r.at_ 0
    rw [z] at this
    have z0 : ((0 : Int) : Rat) = 0 := rfl
    rw [z0] at this
    rcases Rat.mul_eq_zero.mp this.symm with q | q
    · grind
    · rw [q] at o
      grind
  · have := n1_of_bd b (by omega)
    exact pow_up this (by omega)
theorem pI_divA {us : List (List Int)} {u : List Int} (hu : u ∈ us) (g0 : gcdL us.flatten ≠ 0) (x : Rat) : pI u x = ((gcdL us.flatten : Nat) : Rat) * pI (u.map fun x => x / ((gcdL us.flatten : Nat) : Int)) x := by
  have := pe_lin (a := ((gcdL us.flatten : Nat) : Rat)) (b := 0) (u := ri (u.map fun x => x / ((gcdL us.flatten : Nat) : Int))) (v := []) (w := ri u) (fun k => by
    rw [ri_get, ri_get]
    by_cases hk : k < u.length
    · have mem : u.getD k 0 ∈ us.flatten := List.mem_flatten.mpr ⟨u, hu, by rw [List.getD_eq_getElem?_getD, List.getElem?_eq_getElem hk]; exact List.getElem_mem hk⟩
      have d := gcdL_dvd mem
      have e : (u.map fun x => x / ((gcdL us.flatten : Nat) : Int)).getD k 0 = u.getD k 0 / ((gcdL us.flatten : Nat) : Int) := by
        rw [List.getD_eq_getElem?_getD, List.getElem?_map, List.getD_eq_getElem?_getD, List.getElem?_eq_getElem hk]
        rfl
      rw [e]
      have m := Int.mul_ediv_cancel' d
      have : ((u.getD k 0 : Int) : Rat) = ((((gcdL us.flatten : Nat) : Int) * (u.getD k 0 / ((gcdL us.flatten : Nat) : Int)) : Int) : Rat) := by rw [m]
      rw [Rat.intCast_mul, Rat.intCast_natCast] at this
      grind
    · rw [getD_out (u := u) (by omega), getD_out (by rw [List.length_map]; omega)]
      have z0 : ((0 : Int) : Rat) = 0 := rfl
      rw [z0]
      grind) x
  unfold pI
  rw [this]
  grind
theorem n1_div (g : Int) (hg : 0 < g) : ∀ u : List Int, n1 (u.map fun x => x / g) ≤ n1 u
  | [] => Nat.le_refl _
  | a :: u => by
    have := n1_div g hg u
    have h : (a / g).natAbs ≤ a.natAbs := by
      have := Int.natAbs_ediv_le_natAbs a g
      omega
    show (a / g).natAbs + _ ≤ a.natAbs + _
    omega
theorem in_getD {α : Type} {z : α} {l : List α} {k : Nat} (h : k < l.length) : l.getD k z ∈ l := by
  rw [List.getD_eq_getElem?_getD, List.getElem?_eq_getElem h]
  exact List.getElem_mem h
theorem at_getD {α : Type} (z : α) {l : List α} {y : α} (h : y ∈ l) : ∃ k, k < l.length ∧ l.getD k z = y := by
  obtain ⟨k, hk, e⟩ := List.getElem_of_mem h
  exact ⟨k, hk, by rw [List.getD_eq_getElem?_getD, List.getElem?_eq_getElem hk]; exact e⟩
theorem prim_uniqA {c : Rat} (hc : 0 < c) {us vs : List (List Int)} (hl : us.length = vs.length) (h : ∀ k x, pI (us.getD k []) x = c * pI (vs.getD k []) x) (gu : gcdL us.flatten = 1) (gv : gcdL vs.flatten = 1)
    (tu : ∀ k, (us.getD k []).getLast? ≠ some 0) (tv : ∀ k, (vs.getD k []).getLast? ≠ some 0) : us = vs := by
  have ce : ∀ k j, (((us.getD k []).getD j 0 : Int) : Rat) = c * (((vs.getD k []).getD j 0 : Int) : Rat) := fun k j => by
    have := pe_prop (u := ri (us.getD k [])) (v := ri (vs.getD k [])) (c := c) (fun x => h k x) j
    rwa [ri_get, ri_get] at this
  have cn : 0 < c.num := frOf_pos hc
  have cd : (0 : Int) < (c.den : Int) := by have := c.den_pos; omega
  have ci : ∀ k j, (c.den : Int) * (us.getD k []).getD j 0 = c.num * (vs.getD k []).getD j 0 := fun k j => by
    have e := ce k j
    have e2 : c = (c.num : Rat) / ((c.den : Int) : Rat) := by
      have := frOf_val c
      exact this.symm
    have dn := ratInt_ne (a := (c.den : Int)) (by omega)
    rw [e2] at e
    refine Rat.intCast_inj.mp ?_
    rw [Rat.intCast_mul, Rat.intCast_mul, e]
    grind
  have mem : ∀ {ws : List (List Int)} {y : Int}, y ∈ ws.flatten → ∃ k j, (ws.getD k []).getD j 0 = y := fun {ws y} hy => by
    obtain ⟨w, hw, hyw⟩ := List.mem_flatten.mp hy
    obtain ⟨j, hj⟩ := mem_get hyw
    obtain ⟨k, hk, e⟩ := at_getD [] hw
    exact ⟨k, j, by rw [e]; exact hj⟩
  have memI : ∀ (ws : List (List Int)) k j, (ws.getD k []).getD j 0 = 0 ∨ (ws.getD k []).getD j 0 ∈ ws.flatten := fun ws k j => by
    by_cases hk : k < ws.length
    · by_cases hj : j < (ws.getD k []).length
      · exact .inr (List.mem_flatten.mpr ⟨ws.getD k [], in_getD hk, in_getD hj⟩)
      · exact .inl (getD_out (by omega))
    · refine .inl ?_
      rw [get_out (u := ws) (by omega)]
      rfl
  have d1 : c.num.natAbs ∣ (c.den : Int).natAbs * gcdL us.flatten := dvd_gcdL fun y hy => by
    obtain ⟨k, j, rfl⟩ := mem hy
    exact ⟨_, ci k j⟩
  have d2 : (c.den : Int).natAbs ∣ c.num.natAbs * gcdL vs.flatten := dvd_gcdL fun y hy => by
    obtain ⟨k, j, rfl⟩ := mem hy
    exact ⟨_, (ci k j).symm⟩
  rw [gu, Nat.mul_one] at d1
  rw [gv, Nat.mul_one] at d2
  have e := Nat.dvd_antisymm d1 d2
  have en : c.num = (c.den : Int) := by omega
  have eq : ∀ k j, (us.getD k []).getD j 0 = (vs.getD k []).getD j 0 := fun k j => by
    have := ci k j
    rw [en] at this
    exact Int.eq_of_mul_eq_mul_left (by omega) this
  refine List.ext_getElem? fun k => ?_
  by_cases hk : k < us.length
  · have ek : us.getD k [] = vs.getD k [] := by
      refine row_ext (tu k) (tv k) (eq k)
    rw [List.getD_eq_getElem?_getD, List.getD_eq_getElem?_getD, List.getElem?_eq_getElem hk, List.getElem?_eq_getElem (by omega)] at ek
    rw [List.getElem?_eq_getElem hk, List.getElem?_eq_getElem (by omega)]
    exact congrArg some ek
  · rw [List.getElem?_eq_none (by omega), List.getElem?_eq_none (by omega)]
end Px
namespace Px
open PySem PySem.Spec PyProof.Rows L2 DL Mx
/-! rows thinned together -/
abbrev gcdA (us : List (List Int)) : Nat := gcdL us.flatten
def thinA (us : List (List Int)) : List (List Int) := us.map fun u => u.map fun x => x / ((gcdA us : Nat) : Int)
def wF (U : Int) (r : List Fr) : List Int := r.map fun x => x.1 * (U / x.2)
theorem frows1 : ∀ {a b : List (List Fr)}, a.map frowD = b.map frowD → a = b
  | [], [], _ => rfl
  | [], _ :: _, h => by cases h
  | _ :: _, [], h => by cases h
  | x :: a, y :: b, h => by
    simp only [List.map_cons, List.cons.injEq] at h
    have e : x = y := by
      have := h.1
      unfold frowD at this
      injection this with this
      exact mapF_inj this
    rw [e, frows1 h.2]
theorem flat_eq : ∀ {a b : List (List Int)}, a.map List.length = b.map List.length → a.flatten = b.flatten → a = b
  | [], [], _, _ => rfl
  | [], _ :: _, h, _ => by cases h
  | _ :: _, [], h, _ => by cases h
  | x :: a, y :: b, h, f => by
    simp only [List.map_cons, List.cons.injEq] at h
    rw [List.flatten_cons, List.flatten_cons] at f
    obtain ⟨e1, e2⟩ := List.append_inj f h.1
    rw [e1, flat_eq h.2 e2]
theorem flat_div (g : Int) : ∀ us : List (List Int), (us.map fun u => u.map fun x => x / g).flatten = us.flatten.map fun x => x / g
  | [] => rfl
  | u :: us => by rw [List.map_cons, List.flatten_cons, List.flatten_cons, List.map_append, flat_div g us]
theorem thinA_flat (us : List (List Int)) : (thinA us).flatten = prim us.flatten := flat_div _ us
theorem thinA_len (us : List (List Int)) : (thinA us).map List.length = us.map List.length := by
  unfold thinA
  rw [List.map_map]
  refine List.map_congr_left fun u _ => ?_
  show (u.map _).length = _
  rw [List.length_map]
theorem flat_prop {a b : Int} : ∀ {us vs : List (List Int)}, us.map List.length = vs.map List.length → (∀ k j, a * (us.getD k []).getD j 0 = b * (vs.getD k []).getD j 0) → ∀ n, a * us.flatten.getD n 0 = b * vs.flatten.getD n 0
  | [], [], _, _, n => by
    show a * ([] : List Int).getD n 0 = b * ([] : List Int).getD n 0
    rw [getD_out (u := []) (Nat.zero_le _)]
    simp
  | [], _ :: _, h, _, _ => by cases h
  | _ :: _, [], h, _, _ => by cases h
  | x :: us, y :: vs, h, f, n => by
    simp only [List.map_cons, List.cons.injEq] at h
    rw [List.flatten_cons, List.flatten_cons]
    by_cases q : n < x.length
    · have := f 0 n
      rw [List.getD_eq_getElem?_getD, List.getD_eq_getElem?_getD, List.getElem?_append_left q, List.getElem?_append_left (by omega), ← List.getD_eq_getElem?_getD, ← List.getD_eq_getElem?_getD]
      exact this
    · rw [List.getD_eq_getElem?_getD, List.getD_eq_getElem?_getD, List.getElem?_append_right (by omega), List.getElem?_append_right (by omega), ← List.getD_eq_getElem?_getD, ← List.getD_eq_getElem?_getD, ← h.1]
      exact flat_prop h.2 (fun k j => f (k + 1) j) _
theorem thinA_eq {a b : Int} (ha : 0 < a) (hb : 0 < b) {us vs : List (List Int)} (hl : us.map List.length = vs.map List.length) (h : ∀ k j, a * (us.getD k []).getD j 0 = b * (vs.getD k []).getD j 0) : thinA us = thinA vs := by
  refine flat_eq (by rw [thinA_len, thinA_len, hl]) ?_
  rw [thinA_flat, thinA_flat]
  exact prim_eq ha hb (by rw [List.length_flatten, List.length_flatten, hl]) (flat_prop hl h)
theorem rowsS_at {us : List (List Int)} {S : Int} {i : Nat} {d : PyData} (h : ((us.map fun u => rowS u S).map frowD)[i]? = some d) : ∃ u, us[i]? = some u ∧ d = frowD (rowS u S) := by
  rw [List.map_map, List.getElem?_map] at h
  cases e : us[i]? with
  | none => rw [e] at h; cases h
  | some u => rw [e] at h; exact ⟨u, rfl, (Option.some.inj h).symm⟩
/-! the laws' own runs of small lines, by values -/
structure Ln4 (dd ss : List Fr) : Prop where
  ln : LN dd ss
  d4 : ∀ x ∈ dd, Frb x 4
  s4 : ∀ x ∈ ss, Frb x 4
structure Two (e m : Nat) (a t : Rat → Rat) (U V : List Int) (S : Int) : Prop where
  s0 : 0 < S
  sb : S.natAbs < 2 ^ e
  uv : ∀ x, pI U x = (S : Rat) * a x
  vv : ∀ x, pI V x = (S : Rat) * t x
  un : n1 U < 2 ^ e
  vn : n1 V < 2 ^ e
  ul : U.length ≤ m
  vl : V.length ≤ m
theorem pI_cons (z : Int) (u : List Int) (x : Rat) : pI (z :: u) x = (z : Rat) + x * pI u x := rfl
theorem pI_nil (x : Rat) : pI [] x = 0 := rfl
theorem pI_one (z : Int) (x : Rat) : pI [z] x = (z : Rat) := by
  rw [pI_cons, pI_nil]
  grind
theorem n1_cons (z : Int) (u : List Int) : n1 (z :: u) = z.natAbs + n1 u := rfl
theorem n1_lin {a b : Int} {u v : List Int} {c d e : Nat} (ha : a.natAbs < 2 ^ c) (hb : b.natAbs < 2 ^ c) (hu : n1 u < 2 ^ d) (hv : n1 v < 2 ^ d) (h : c + d + 1 ≤ e) : n1 (trim (comb a u b v)) < 2 ^ e := by
  have h1 := n1_trim (comb a u b v)
  have h2 := n1_comb a u b v
  have h3 : a.natAbs * n1 u < 2 ^ (c + d) := mul_bd ha hu
  have h4 : b.natAbs * n1 v < 2 ^ (c + d) := mul_bd hb hv
  have h5 : 2 ^ (c + d) + 2 ^ (c + d) = 2 ^ (c + d + 1) := by rw [Nat.pow_succ]; omega
  have h6 : 2 ^ (c + d + 1) ≤ 2 ^ e := Nat.pow_le_pow_right (by decide) h
  omega
theorem len_lin (a : Int) (u : List Int) (b : Int) (v : List Int) {m : Nat} (hu : u.length ≤ m) (hv : v.length ≤ m) : (trim (comb a u b v)).length ≤ m := by
  have := trim_len (comb a u b v)
  rw [comb_len] at this
  omega
theorem neg_small {a : Int} {e : Nat} (h : a.natAbs < 2 ^ e) : (-a).natAbs < 2 ^ e := by rw [Int.natAbs_neg]; exact h
/-- the row of the turning effect: -J times the variable, times a row -/
theorem eff_row {t : List Fr} {j1 j2 : Int} {U : List Int} {S : Int} (fo : ∀ y ∈ t, FOk y) (tr : Tr t) (hj : 0 < j2) (hS : 0 < S) (pv : ∀ x, pF t x = pF (rowS [0, -j1] j2) x * pF (rowS U S) x) : t = rowS (trim (comb (-j1) (0 :: U) 0 [])) (S * j2) := by
  have := rowS_uniq (U := comb (-j1) (0 :: U) 0 []) (S := S * j2) fo tr (Int.mul_pos hS hj) fun x => by
    rw [pv, rowS_pF, rowS_pF, pI_comb, pI_cons 0 [-j1], pI_one, pI_cons 0 U, Rat.intCast_mul, Rat.intCast_neg]
    have n1 := ratInt_ne (a := j2) (by omega)
    have n2 := ratInt_ne (a := S) (by omega)
    have z0 : ((0 : Int) : Rat) = 0 := rfl
    rw [z0]
    grind
  exact this
def tqV (j1 j2 : Int) (U V : List Int) : List Int := trim (comb j2 V (-j1) (0 :: U))
theorem tq_row {t : List Fr} {j1 j2 : Int} {U V : List Int} {S : Int} (fo : ∀ y ∈ t, FOk y) (tr : Tr t) (hj : 0 < j2) (hS : 0 < S) (pv : ∀ x, pF t x = pF (rowS V S) x + pF (rowS (trim (comb (-j1) (0 :: U) 0 [])) (S * j2)) x) : t = rowS (tqV j1 j2 U V) (S * j2) := by
  have := rowS_uniq (U := comb j2 V (-j1) (0 :: U)) (S := S * j2) fo tr (Int.mul_pos hS hj) fun x => by
    rw [pv, rowS_pF, rowS_pF, pI_trim, pI_comb, pI_comb, pI_nil, Rat.intCast_mul]
    have n1 := ratInt_ne (a := j2) (by omega)
    have n2 := ratInt_ne (a := S) (by omega)
    have z0 : ((0 : Int) : Rat) = 0 := rfl
    rw [z0]
    grind
  exact this
theorem tq_val {e m : Nat} {a t : Rat → Rat} {U V : List Int} {S j1 j2 : Int} (h : Two e m a t U V S) (hj : 0 < j2) (b1 : j1.natAbs < 2 ^ 4) (b2 : j2.natAbs < 2 ^ 4) :
    (∀ x, pI (tqV j1 j2 U V) x = ((S * j2 : Int) : Rat) * (t x - x * ((j1 : Rat) / (j2 : Rat)) * a x)) ∧ n1 (tqV j1 j2 U V) < 2 ^ (e + 5) ∧ (tqV j1 j2 U V).length ≤ m + 1 ∧ (S * j2).natAbs < 2 ^ (e + 4) := by
  refine ⟨fun x => ?_, ?_, ?_, natAbs_mul_lt h.sb b2⟩
  · unfold tqV
    have z0 : ((0 : Int) : Rat) = 0 := rfl
    have nj := ratInt_ne (a := j2) (by omega)
    rw [pI_trim, pI_comb, pI_cons, h.uv, h.vv, Rat.intCast_mul, Rat.intCast_neg, z0]
    grind
  · exact n1_lin b2 (neg_small b1) h.vn (by rw [n1_cons]; have := h.un; simpa using this) (by omega)
  · exact len_lin _ _ _ _ (by have := h.vl; omega) (by have := h.ul; show U.length + 1 ≤ _; omega)
def tnV (j2 k1 k2 : Int) (U V' : List Int) : List Int := trim (comb (j2 * k1) U k2 V')
theorem tn_row {t : List Fr} {j2 k1 k2 : Int} {U V' : List Int} {S : Int} (fo : ∀ y ∈ t, FOk y) (tr : Tr t) (hj : 0 < j2) (hk : 0 < k1) (hS : 0 < S) (pv : ∀ x, pF t x = pF (rowS U S) x + pF (rowS (trim (comb k2 V' 0 [])) (k1 * (S * j2))) x) : t = rowS (tnV j2 k1 k2 U V') (S * (j2 * k1)) := by
  have := rowS_uniq (U := comb (j2 * k1) U k2 V') (S := S * (j2 * k1)) fo tr (Int.mul_pos hS (Int.mul_pos hj hk)) fun x => by
    rw [pv, rowS_pF, rowS_pF, pI_trim, pI_comb, pI_comb, pI_nil, Rat.intCast_mul, Rat.intCast_mul, Rat.intCast_mul, Rat.intCast_mul]
    have n1 := ratInt_ne (a := j2) (by omega)
    have n2 := ratInt_ne (a := S) (by omega)
    have n3 := ratInt_ne (a := k1) (by omega)
    have z0 : ((0 : Int) : Rat) = 0 := rfl
    rw [z0]
    grind
  exact this
theorem up_row {V' : List Int} {S j2 k1 : Int} (hj : 0 < j2) (hk : 0 < k1) (hS : 0 < S) (tv : V'.getLast? ≠ some 0) : rowS V' (S * j2) = rowS (trim (comb k1 V' 0 [])) (S * (j2 * k1)) :=
  rowS_uniq (U := comb k1 V' 0 []) (S := S * (j2 * k1)) (rowS_ok _ _) (rowS_tr (Int.mul_pos hS hj) tv) (Int.mul_pos hS (Int.mul_pos hj hk)) fun x => by
    rw [rowS_pF, pI_comb, pI_nil, Rat.intCast_mul, Rat.intCast_mul, Rat.intCast_mul]
    have n1 := ratInt_ne (a := j2) (by omega)
    have n2 := ratInt_ne (a := S) (by omega)
    have n3 := ratInt_ne (a := k1) (by omega)
    have z0 : ((0 : Int) : Rat) = 0 := rfl
    rw [z0]
    grind
theorem two_step {e m : Nat} {a t a' t' : Rat → Rat} {U V : List Int} {S j1 j2 k1 k2 : Int} (h : Two e m a t U V S) (hj : 0 < j2) (b1 : j1.natAbs < 2 ^ 4) (b2 : j2.natAbs < 2 ^ 4) (hk : 0 < k1) (c1 : k1.natAbs < 2 ^ 4) (c2 : k2.natAbs < 2 ^ 4)
    (et : ∀ x, t' x = t x - x * ((j1 : Rat) / (j2 : Rat)) * a x) (ea : ∀ x, a' x = a x + t' x / ((k1 : Rat) / (k2 : Rat))) (hk2 : 0 < k2) :
    Two (e + 10) (m + 1) a' t' (tnV j2 k1 k2 U (tqV j1 j2 U V)) (trim (comb k1 (tqV j1 j2 U V) 0 [])) (S * (j2 * k1)) := by
  obtain ⟨v1, v2, v3, v4⟩ := tq_val h hj b1 b2
  have jk : (j2 * k1).natAbs < 2 ^ 8 := natAbs_mul_lt b2 c1
  have z0 : ((0 : Int) : Rat) = 0 := rfl
  have nj := ratInt_ne (a := j2) (by omega)
  have nk := ratInt_ne (a := k1) (by omega)
  have nk2 := ratInt_ne (a := k2) (by omega)
  refine ⟨Int.mul_pos h.s0 (Int.mul_pos hj hk), pow_up (natAbs_mul_lt h.sb jk) (by omega), fun x => ?_, fun x => ?_, ?_, ?_, ?_, ?_⟩
  · unfold tnV
    rw [pI_trim, pI_comb, h.uv, v1, ea, ← et, Rat.intCast_mul, Rat.intCast_mul, Rat.intCast_mul]
    grind
  · rw [pI_trim, pI_comb, pI_nil, v1, ← et, Rat.intCast_mul, Rat.intCast_mul, Rat.intCast_mul, z0]
    grind
  · have h1 := n1_trim (comb (j2 * k1) U k2 (tqV j1 j2 U V))
    have h2 := n1_comb (j2 * k1) U k2 (tqV j1 j2 U V)
    have h3 : (j2 * k1).natAbs * n1 U < 2 ^ (8 + e) := mul_bd jk h.un
    have h4 : k2.natAbs * n1 (tqV j1 j2 U V) < 2 ^ (4 + (e + 5)) := mul_bd c2 v2
    have h5 : 2 ^ (8 + e) ≤ 2 ^ (e + 9) := Nat.pow_le_pow_right (by decide) (by omega)
    have h6 : 2 ^ (4 + (e + 5)) = 2 ^ (e + 9) := by congr 1; omega
    have h7 : 2 ^ (e + 10) = 2 ^ (e + 9) + 2 ^ (e + 9) := by rw [show e + 10 = e + 9 + 1 by omega, Nat.pow_succ]; omega
    unfold tnV
    omega
  · have h1 := n1_sc k1 (tqV j1 j2 U V)
    have h4 : k1.natAbs * n1 (tqV j1 j2 U V) < 2 ^ (4 + (e + 5)) := mul_bd c1 v2
    exact pow_up (Nat.lt_of_le_of_lt h1 h4) (by omega)
  · exact len_lin _ _ _ _ (by have := h.ul; omega) v3
  · exact Nat.le_trans (len_sc _ _) v3
/-- the rows of a run -/
structure RunV (dd ss : List Fr) (rs : List (List Fr)) : Prop where
  len : rs.length = dd.length + 1
  row : ∀ j, j < dd.length → ∃ (U : List Int) (S : Int), rs[j]? = some (rowS U S) ∧ 0 < S ∧ S.natAbs < 2 ^ (10 * j + 4) ∧ (∀ x, pI U x = (S : Rat) * xa (jv dd) (jv ss) x j) ∧ n1 U < 2 ^ (10 * j + 4) ∧ U.length ≤ j + 1 ∧ U.getLast? ≠ some 0
  fin : ∃ (U : List Int) (S : Int), rs[dd.length]? = some (rowS U S) ∧ 0 < S ∧ S.natAbs < 2 ^ (10 * dd.length + 4) ∧ (∀ x, pI U x = (S : Rat) * ea (jv dd) (jv ss) x (dd.length - 1)) ∧ n1 U < 2 ^ (10 * dd.length + 4) ∧ U.length ≤ dd.length + 1 ∧ U.getLast? ≠ some 0
end Px
set_option maxRecDepth 100000
set_option maxHeartbeats 4000000
namespace Law
open PySem PySem.Spec PyProof.Rows L2 DL Mx Px
local macro_rules | `(tactic| walk_at "d") => `(tactic| first
  | with_reducible refine st_seq ?_ | with_reducible refine st_if ?_ | with_reducible refine st_ret ?_ | with_reducible refine st_next ?_
  | with_reducible refine et_or ?_ | with_reducible refine et_and ?_ | with_reducible refine et_not ?_ | with_reducible refine et_test ?_ | with_reducible refine et_B ?_
  | with_reducible refine ev_int ?_ | with_reducible refine ev_bl ?_ | with_reducible refine ev_non ?_ | with_reducible refine ev_str ?_
  | with_reducible refine ev_isiInt ?_ | with_reducible refine ev_isiBool ?_ | with_reducible refine ev_isiTup ?_
  | with_reducible refine ev_andV ?_ | with_reducible refine ev_orV ?_ | with_reducible refine ev_notV ?_ | with_reducible refine ev_if ?_ | with_reducible refine ev_chain ?_ | with_reducible refine ev_tup ?_ | with_reducible refine ev_lst ?_ | refine sz_and (by simp) ?_
  | with_reducible refine ev_op ?_ | with_reducible refine ev_un ?_ | with_reducible refine ev_sl ?_ | refine ev_lenOwn rfl ?_ | with_reducible refine ev_new (en_listQ ?_) | with_reducible refine ev_cb ?_ | with_reducible refine ev_dictD ?_ | with_reducible refine ev_isN ?_
  | with_reducible refine ea_cons ?_ | with_reducible refine ea_nil ?_ | with_reducible refine eo_no ?_ | with_reducible refine eo_some ?_
  | with_reducible refine co_lenT ?_ | with_reducible refine co_lenL ?_ | with_reducible refine co_abs ?_ | with_reducible refine co_int ?_ | with_reducible refine cok_gcd ?_
  | with_reducible refine rok_b0 ?_ | with_reducible refine rok_i0 ?_ | with_reducible refine rok_eqI ?_ | with_reducible refine rok_neI ?_ | with_reducible refine ro_add ?_ | with_reducible refine rok_notB ?_ | with_reducible refine rok_isB ?_
  | with_reducible refine ro_mulL (by decide) (by decide) ?_ | with_reducible refine so_tup ?_ | with_reducible refine so_lst ?_ | with_reducible refine uok_neg ?_
  | with_reducible refine tg_cons ?_ | with_reducible refine tg_nil ?_
  | refine ev_var rfl ?_
  | with_reducible refine ⟨_, rfl, ?_⟩
  | with_reducible refine ⟨_, Or.inl rfl, ?_⟩)
local macro_rules | `(tactic| walk_at "dd") => `(tactic| repeat walk_at "d")
local macro_rules | `(tactic| walk_at "d") => `(tactic| first | with_reducible refine ixf0 ?_ | with_reducible refine ixf1 ?_)
def topS (i : Nat) : Stmt := PySem.Challenge.pw_shaftshakes_k89_whole_parts_of_a_stir.main.body.getD i (.Pass ⟨0, 0, 0, 0⟩)
abbrev s_is_whole : Stmt := topS 6
abbrev N_is_whole : List Str := ["value"]
abbrev p_is_whole : List Str := ["value"]
theorem sc_is_whole : FnScope N_is_whole p_is_whole (defScope s_is_whole) := ⟨rfl, rfl, rfl, by decide +kernel, rfl, by decide +kernel, by decide +kernel⟩
abbrev s_is_fraction : Stmt := topS 7
abbrev N_is_fraction : List Str := ["value", "top", "bottom"]
abbrev p_is_fraction : List Str := ["value"]
theorem sc_is_fraction : FnScope N_is_fraction p_is_fraction (defScope s_is_fraction) := ⟨rfl, rfl, rfl, by decide +kernel, rfl, by decide +kernel, by decide +kernel⟩
abbrev s_is_fraction_from_nought : Stmt := topS 8
abbrev N_is_fraction_from_nought : List Str := ["value"]
abbrev p_is_fraction_from_nought : List Str := ["value"]
theorem sc_is_fraction_from_nought : FnScope N_is_fraction_from_nought p_is_fraction_from_nought (defScope s_is_fraction_from_nought) := ⟨rfl, rfl, rfl, by decide +kernel, rfl, by decide +kernel, by decide +kernel⟩
abbrev s_is_index : Stmt := topS 9
abbrev N_is_index : List Str := ["value", "size"]
abbrev p_is_index : List Str := ["value", "size"]
theorem sc_is_index : FnScope N_is_index p_is_index (defScope s_is_index) := ⟨rfl, rfl, rfl, by decide +kernel, rfl, by decide +kernel, by decide +kernel⟩
abbrev s_trimmed : Stmt := topS 11
abbrev N_trimmed : List Str := ["numbers", "size"]
abbrev p_trimmed : List Str := ["numbers"]
theorem sc_trimmed : FnScope N_trimmed p_trimmed (defScope s_trimmed) := ⟨rfl, rfl, rfl, by decide +kernel, rfl, by decide +kernel, by decide +kernel⟩
abbrev s_blend : Stmt := topS 12
abbrev N_blend : List Str := ["first", "times", "second", "other_times", "number", "sums", "place"]
abbrev p_blend : List Str := ["first", "times", "second", "other_times"]
theorem sc_blend : FnScope N_blend p_blend (defScope s_blend) := ⟨rfl, rfl, rfl, by decide +kernel, rfl, by decide +kernel, by decide +kernel⟩
abbrev s_raised : Stmt := topS 13
abbrev N_raised : List Str := ["polynomial"]
abbrev p_raised : List Str := ["polynomial"]
theorem sc_raised : FnScope N_raised p_raised (defScope s_raised) := ⟨rfl, rfl, rfl, by decide +kernel, rfl, by decide +kernel, by decide +kernel⟩
abbrev s_content : Stmt := topS 14
abbrev N_content : List Str := ["polynomial", "shared", "number"]
abbrev p_content : List Str := ["polynomial"]
theorem sc_content : FnScope N_content p_content (defScope s_content) := ⟨rfl, rfl, rfl, by decide +kernel, rfl, by decide +kernel, by decide +kernel⟩
abbrev s_shrunk : Stmt := topS 15
abbrev N_shrunk : List Str := ["polynomial", "divisor", "number"]
abbrev p_shrunk : List Str := ["polynomial", "divisor"]
theorem sc_shrunk : FnScope N_shrunk p_shrunk (defScope s_shrunk) := ⟨rfl, rfl, rfl, by decide +kernel, rfl, by decide +kernel, by decide +kernel⟩
abbrev s_run_parts : Stmt := topS 17
abbrev N_run_parts : List Str := ["line", "discs", "shafts", "number", "scale", "turn", "torque", "angles", "torques", "place", "inertia", "stiffness"]
abbrev p_run_parts : List Str := ["line"]
theorem sc_run_parts : FnScope N_run_parts p_run_parts (defScope s_run_parts) := ⟨rfl, rfl, rfl, by decide +kernel, rfl, by decide +kernel, by decide +kernel⟩
abbrev s_is_row_of_fractions : Stmt := topS 20
abbrev N_is_row_of_fractions : List Str := ["value", "size", "number"]
abbrev p_is_row_of_fractions : List Str := ["value", "size"]
theorem sc_is_row_of_fractions : FnScope N_is_row_of_fractions p_is_row_of_fractions (defScope s_is_row_of_fractions) := ⟨rfl, rfl, rfl, by decide +kernel, rfl, by decide +kernel, by decide +kernel⟩
abbrev s_is_line : Stmt := topS 21
abbrev N_is_line : List Str := ["value", "discs", "shafts", "number"]
abbrev p_is_line : List Str := ["value"]
theorem sc_is_line : FnScope N_is_line p_is_line (defScope s_is_line) := ⟨rfl, rfl, rfl, by decide +kernel, rfl, by decide +kernel, by decide +kernel⟩
abbrev s_thinned_all : Stmt := topS 26
abbrev N_thinned_all : List Str := ["polynomials", "shared", "polynomial"]
abbrev p_thinned_all : List Str := ["polynomials"]
theorem sc_thinned_all : FnScope N_thinned_all p_thinned_all (defScope s_thinned_all) := ⟨rfl, rfl, rfl, by decide +kernel, rfl, by decide +kernel, by decide +kernel⟩
abbrev s_pushes_of : Stmt := topS 27
abbrev N_pushes_of : List Str := ["engine", "line", "cranks", "angles", "scale", "disc", "_", "weight", "pushes", "turn", "bottom"]
abbrev p_pushes_of : List Str := ["engine"]
theorem sc_pushes_of : FnScope N_pushes_of p_pushes_of (defScope s_pushes_of) := ⟨rfl, rfl, rfl, by decide +kernel, rfl, by decide +kernel, by decide +kernel⟩
abbrev s_twelfths_of : Stmt := topS 28
abbrev N_twelfths_of : List Str := ["engine", "_", "twelfth"]
abbrev p_twelfths_of : List Str := ["engine"]
theorem sc_twelfths_of : FnScope N_twelfths_of p_twelfths_of (defScope s_twelfths_of) := ⟨rfl, rfl, rfl, by decide +kernel, rfl, by decide +kernel, by decide +kernel⟩
abbrev s_stir_of : Stmt := topS 29
abbrev N_stir_of : List Str := ["pushes", "twelfths", "order", "parts", "push", "twelfth", "turns", "cosine", "sine", "part", "times"]
abbrev p_stir_of : List Str := ["pushes", "twelfths", "order"]
theorem sc_stir_of : FnScope N_stir_of p_stir_of (defScope s_stir_of) := ⟨rfl, rfl, rfl, by decide +kernel, rfl, by decide +kernel, by decide +kernel⟩
abbrev s_is_crank : Stmt := topS 32
abbrev N_is_crank : List Str := ["line", "value", "disc", "twelfth", "weight"]
abbrev p_is_crank : List Str := ["line", "value"]
theorem sc_is_crank : FnScope N_is_crank p_is_crank (defScope s_is_crank) := ⟨rfl, rfl, rfl, by decide +kernel, rfl, by decide +kernel, by decide +kernel⟩
abbrev s_is_engine : Stmt := topS 33
abbrev N_is_engine : List Str := ["value", "line", "cranks", "crank"]
abbrev p_is_engine : List Str := ["value"]
theorem sc_is_engine : FnScope N_is_engine p_is_engine (defScope s_is_engine) := ⟨rfl, rfl, rfl, by decide +kernel, rfl, by decide +kernel, by decide +kernel⟩
abbrev s_check_engine : Stmt := topS 34
abbrev N_check_engine : List Str := ["given"]
abbrev p_check_engine : List Str := ["given"]
theorem sc_check_engine : FnScope N_check_engine p_check_engine (defScope s_check_engine) := ⟨rfl, rfl, rfl, by decide +kernel, rfl, by decide +kernel, by decide +kernel⟩
abbrev s_check_order : Stmt := topS 35
abbrev N_check_order : List Str := ["given"]
abbrev p_check_order : List Str := ["given"]
theorem sc_check_order : FnScope N_check_order p_check_order (defScope s_check_order) := ⟨rfl, rfl, rfl, by decide +kernel, rfl, by decide +kernel, by decide +kernel⟩
abbrev s_stir_by : Stmt := topS 36
abbrev N_stir_by : List Str := ["engine", "order"]
abbrev p_stir_by : List Str := ["engine", "order"]
theorem sc_stir_by : FnScope N_stir_by p_stir_by (defScope s_stir_by) := ⟨rfl, rfl, rfl, by decide +kernel, rfl, by decide +kernel, by decide +kernel⟩
abbrev s_stir_parts : Stmt := topS 37
abbrev N_stir_parts : List Str := ["engine", "order"]
abbrev p_stir_parts : List Str := ["engine", "order"]
theorem sc_stir_parts : FnScope N_stir_parts p_stir_parts (defScope s_stir_parts) := ⟨rfl, rfl, rfl, by decide +kernel, rfl, by decide +kernel, by decide +kernel⟩
abbrev s__law_spring : Stmt := topS 39
abbrev N__law_spring : List Str := ["_law_script", "_law_turn", "_law_own", "_law_stirred", "_law_cell"]
abbrev p__law_spring : List Str := ["_law_script", "_law_turn"]
theorem sc__law_spring : FnScope N__law_spring p__law_spring (defScope s__law_spring) := ⟨rfl, rfl, rfl, by decide +kernel, rfl, by decide +kernel, by decide +kernel⟩
abbrev s__law_pull : Stmt := topS 40
abbrev N__law_pull : List Str := ["_law_spring_here", "_law_many", "_law_figure"]
abbrev p__law_pull : List Str := ["_law_spring_here", "_law_many"]
theorem sc__law_pull : FnScope N__law_pull p__law_pull (defScope s__law_pull) := ⟨rfl, rfl, rfl, by decide +kernel, rfl, by decide +kernel, by decide +kernel⟩
abbrev s__law_from : Stmt := topS 41
abbrev N__law_from : List Str := ["_law_spring_here", "_law_things"]
abbrev p__law_from : List Str := ["_law_spring_here", "_law_things"]
theorem sc__law_from : FnScope N__law_from p__law_from (defScope s__law_from) := ⟨rfl, rfl, rfl, by decide +kernel, rfl, by decide +kernel, by decide +kernel⟩
abbrev s__law_common : Stmt := topS 42
abbrev N__law_common : List Str := ["_law_one", "_law_two"]
abbrev p__law_common : List Str := ["_law_one", "_law_two"]
theorem sc__law_common : FnScope N__law_common p__law_common (defScope s__law_common) := ⟨rfl, rfl, rfl, by decide +kernel, rfl, by decide +kernel, by decide +kernel⟩
abbrev s__law_frac : Stmt := topS 43
abbrev N__law_frac : List Str := ["_law_one", "_law_two", "_law_part"]
abbrev p__law_frac : List Str := ["_law_one", "_law_two"]
theorem sc__law_frac : FnScope N__law_frac p__law_frac (defScope s__law_frac) := ⟨rfl, rfl, rfl, by decide +kernel, rfl, by decide +kernel, by decide +kernel⟩
abbrev s__law_plus : Stmt := topS 44
abbrev N__law_plus : List Str := ["_law_one", "_law_two"]
abbrev p__law_plus : List Str := ["_law_one", "_law_two"]
theorem sc__law_plus : FnScope N__law_plus p__law_plus (defScope s__law_plus) := ⟨rfl, rfl, rfl, by decide +kernel, rfl, by decide +kernel, by decide +kernel⟩
abbrev s__law_by : Stmt := topS 45
abbrev N__law_by : List Str := ["_law_one", "_law_two"]
abbrev p__law_by : List Str := ["_law_one", "_law_two"]
theorem sc__law_by : FnScope N__law_by p__law_by (defScope s__law_by) := ⟨rfl, rfl, rfl, by decide +kernel, rfl, by decide +kernel, by decide +kernel⟩
abbrev s__law_over : Stmt := topS 46
abbrev N__law_over : List Str := ["_law_one", "_law_two"]
abbrev p__law_over : List Str := ["_law_one", "_law_two"]
theorem sc__law_over : FnScope N__law_over p__law_over (defScope s__law_over) := ⟨rfl, rfl, rfl, by decide +kernel, rfl, by decide +kernel, by decide +kernel⟩
abbrev s__law_cut : Stmt := topS 47
abbrev N__law_cut : List Str := ["_law_row", "_law_many", "_law_turn"]
abbrev p__law_cut : List Str := ["_law_row"]
theorem sc__law_cut : FnScope N__law_cut p__law_cut (defScope s__law_cut) := ⟨rfl, rfl, rfl, by decide +kernel, rfl, by decide +kernel, by decide +kernel⟩
abbrev s__law_add : Stmt := topS 48
abbrev N__law_add : List Str := ["_law_one", "_law_two", "_law_long", "_law_first", "_law_second", "_law_k"]
abbrev p__law_add : List Str := ["_law_one", "_law_two"]
theorem sc__law_add : FnScope N__law_add p__law_add (defScope s__law_add) := ⟨rfl, rfl, rfl, by decide +kernel, rfl, by decide +kernel, by decide +kernel⟩
abbrev s__law_mul : Stmt := topS 49
abbrev N__law_mul : List Str := ["_law_one", "_law_two", "_law_found", "_law_k", "_law_i"]
abbrev p__law_mul : List Str := ["_law_one", "_law_two"]
theorem sc__law_mul : FnScope N__law_mul p__law_mul (defScope s__law_mul) := ⟨rfl, rfl, rfl, by decide +kernel, rfl, by decide +kernel, by decide +kernel⟩
abbrev s__law_thin : Stmt := topS 50
abbrev N__law_thin : List Str := ["_law_rows", "_law_under", "_law_part", "_law_row", "_law_each", "_law_whole"]
abbrev p__law_thin : List Str := ["_law_rows"]
theorem sc__law_thin : FnScope N__law_thin p__law_thin (defScope s__law_thin) := ⟨rfl, rfl, rfl, by decide +kernel, rfl, by decide +kernel, by decide +kernel⟩
abbrev s__law_weight : Stmt := topS 51
abbrev N__law_weight : List Str := ["_law_spring_here"]
abbrev p__law_weight : List Str := ["_law_spring_here"]
theorem sc__law_weight : FnScope N__law_weight p__law_weight (defScope s__law_weight) := ⟨rfl, rfl, rfl, by decide +kernel, rfl, by decide +kernel, by decide +kernel⟩
abbrev s__law_stay : Stmt := topS 52
abbrev N__law_stay : List Str := ["_law_spring_here"]
abbrev p__law_stay : List Str := ["_law_spring_here"]
theorem sc__law_stay : FnScope N__law_stay p__law_stay (defScope s__law_stay) := ⟨rfl, rfl, rfl, by decide +kernel, rfl, by decide +kernel, by decide +kernel⟩
abbrev s__law_line : Stmt := topS 53
abbrev N__law_line : List Str := ["_law_spring_here", "_law_most", "_law_many", "_law_discs", "_law_shafts", "_law_k"]
abbrev p__law_line : List Str := ["_law_spring_here", "_law_most"]
theorem sc__law_line : FnScope N__law_line p__law_line (defScope s__law_line) := ⟨rfl, rfl, rfl, by decide +kernel, rfl, by decide +kernel, by decide +kernel⟩
abbrev s__law_run : Stmt := topS 54
abbrev N__law_run : List Str := ["_law_line_here", "_law_discs", "_law_shafts", "_law_angle", "_law_torque", "_law_found", "_law_k"]
abbrev p__law_run : List Str := ["_law_line_here"]
theorem sc__law_run : FnScope N__law_run p__law_run (defScope s__law_run) := ⟨rfl, rfl, rfl, by decide +kernel, rfl, by decide +kernel, by decide +kernel⟩
abbrev s__law_engine : Stmt := topS 55
abbrev N__law_engine : List Str := ["_law_spring_here", "_law_most", "_law_many", "_law_line_here", "_law_found", "_law_drawn", "_law_rows", "_law_row", "_law_same", "_law_twelfth", "_law_disc", "_law_weight_here"]
abbrev p__law_engine : List Str := ["_law_spring_here", "_law_most", "_law_many"]
theorem sc__law_engine : FnScope N__law_engine p__law_engine (defScope s__law_engine) := ⟨rfl, rfl, rfl, by decide +kernel, rfl, by decide +kernel, by decide +kernel⟩
abbrev s__law_twelfths : Stmt := topS 56
abbrev N__law_twelfths : List Str := ["_law_many", "_law_half", "_law_found"]
abbrev p__law_twelfths : List Str := ["_law_many"]
theorem sc__law_twelfths : FnScope N__law_twelfths p__law_twelfths (defScope s__law_twelfths) := ⟨rfl, rfl, rfl, by decide +kernel, rfl, by decide +kernel, by decide +kernel⟩
abbrev s__law_stir : Stmt := topS 57
abbrev N__law_stir : List Str := ["_law_motor", "_law_rank", "_law_run_here", "_law_found", "_law_disc", "_law_twelfth", "_law_weight_here", "_law_own", "_law_far", "_law_k"]
abbrev p__law_stir : List Str := ["_law_motor", "_law_rank"]
theorem sc__law_stir : FnScope N__law_stir p__law_stir (defScope s__law_stir) := ⟨rfl, rfl, rfl, by decide +kernel, rfl, by decide +kernel, by decide +kernel⟩
abbrev s__law_due : Stmt := topS 58
abbrev N__law_due : List Str := ["_law_motor", "_law_rank", "_law_rows", "_law_row", "_law_each"]
abbrev p__law_due : List Str := ["_law_motor", "_law_rank"]
theorem sc__law_due : FnScope N__law_due p__law_due (defScope s__law_due) := ⟨rfl, rfl, rfl, by decide +kernel, rfl, by decide +kernel, by decide +kernel⟩
abbrev s__law_right : Stmt := topS 59
abbrev N__law_right : List Str := ["_law_spring_here", "_law_motor", "_law_rank", "_law_due_here", "_law_back", "_law_row", "_law_each"]
abbrev p__law_right : List Str := ["_law_spring_here"]
theorem sc__law_right : FnScope N__law_right p__law_right (defScope s__law_right) := ⟨rfl, rfl, rfl, by decide +kernel, rfl, by decide +kernel, by decide +kernel⟩
abbrev s_law : Stmt := topS 60
abbrev N_law : List Str := ["_law_script", "_law_turn"]
abbrev p_law : List Str := ["_law_script"]
theorem sc_law : FnScope N_law p_law (defScope s_law) := ⟨rfl, rfl, rfl, by decide +kernel, rfl, by decide +kernel, by decide +kernel⟩
def sx__law_right_0 : Scope := { kind := .function, names := [(Str.ofString ".0", .local), (Str.ofString "_law_row", .local), (Str.ofString "tuple", .globalImplicit)], isGenerator := false, isCoroutine := false, more := [] }
def sx__law_thin_1 : Scope := { kind := .function, names := [(Str.ofString ".0", .local), (Str.ofString "_law_row", .local), (Str.ofString "_law_under", .cell)], isGenerator := false, isCoroutine := false, more := [] }
def sx__law_thin_2 : Scope := { kind := .function, names := [(Str.ofString ".0", .local), (Str.ofString "_law_row", .local), (Str.ofString "_law_part", .cell)], isGenerator := false, isCoroutine := false, more := [] }
set_option genSizeOf false in
set_option genInjectivity false in
structure Tx (K : PySem.W.Frag) (mg : Str → Option Value) where
  a_is_whole : Addr
  d_is_whole : FuncData
  F_is_whole : Fun K "is_whole" "is_whole" s_is_whole a_is_whole d_is_whole
  g_is_whole : mg "is_whole" = some (.ref a_is_whole)
  a_is_fraction : Addr
  d_is_fraction : FuncData
  F_is_fraction : Fun K "is_fraction" "is_fraction" s_is_fraction a_is_fraction d_is_fraction
  g_is_fraction : mg "is_fraction" = some (.ref a_is_fraction)
  a_is_fraction_from_nought : Addr
  d_is_fraction_from_nought : FuncData
  F_is_fraction_from_nought : Fun K "is_fraction_from_nought" "is_fraction_from_nought" s_is_fraction_from_nought a_is_fraction_from_nought d_is_fraction_from_nought
  g_is_fraction_from_nought : mg "is_fraction_from_nought" = some (.ref a_is_fraction_from_nought)
  a_is_index : Addr
  d_is_index : FuncData
  F_is_index : Fun K "is_index" "is_index" s_is_index a_is_index d_is_index
  g_is_index : mg "is_index" = some (.ref a_is_index)
  a_trimmed : Addr
  d_trimmed : FuncData
  F_trimmed : Fun K "trimmed" "trimmed" s_trimmed a_trimmed d_trimmed
  g_trimmed : mg "trimmed" = some (.ref a_trimmed)
  a_blend : Addr
  d_blend : FuncData
  F_blend : Fun K "blend" "blend" s_blend a_blend d_blend
  g_blend : mg "blend" = some (.ref a_blend)
  a_raised : Addr
  d_raised : FuncData
  F_raised : Fun K "raised" "raised" s_raised a_raised d_raised
  g_raised : mg "raised" = some (.ref a_raised)
  a_content : Addr
  d_content : FuncData
  F_content : Fun K "content" "content" s_content a_content d_content
  g_content : mg "content" = some (.ref a_content)
  a_shrunk : Addr
  d_shrunk : FuncData
  F_shrunk : Fun K "shrunk" "shrunk" s_shrunk a_shrunk d_shrunk
  g_shrunk : mg "shrunk" = some (.ref a_shrunk)
  a_run_parts : Addr
  d_run_parts : FuncData
  F_run_parts : Fun K "run_parts" "run_parts" s_run_parts a_run_parts d_run_parts
  g_run_parts : mg "run_parts" = some (.ref a_run_parts)
  a_is_row_of_fractions : Addr
  d_is_row_of_fractions : FuncData
  F_is_row_of_fractions : Fun K "is_row_of_fractions" "is_row_of_fractions" s_is_row_of_fractions a_is_row_of_fractions d_is_row_of_fractions
  g_is_row_of_fractions : mg "is_row_of_fractions" = some (.ref a_is_row_of_fractions)
  a_is_line : Addr
  d_is_line : FuncData
  F_is_line : Fun K "is_line" "is_line" s_is_line a_is_line d_is_line
  g_is_line : mg "is_line" = some (.ref a_is_line)
  a_thinned_all : Addr
  d_thinned_all : FuncData
  F_thinned_all : Fun K "thinned_all" "thinned_all" s_thinned_all a_thinned_all d_thinned_all
  g_thinned_all : mg "thinned_all" = some (.ref a_thinned_all)
  a_pushes_of : Addr
  d_pushes_of : FuncData
  F_pushes_of : Fun K "pushes_of" "pushes_of" s_pushes_of a_pushes_of d_pushes_of
  g_pushes_of : mg "pushes_of" = some (.ref a_pushes_of)
  a_twelfths_of : Addr
  d_twelfths_of : FuncData
  F_twelfths_of : Fun K "twelfths_of" "twelfths_of" s_twelfths_of a_twelfths_of d_twelfths_of
  g_twelfths_of : mg "twelfths_of" = some (.ref a_twelfths_of)
  a_stir_of : Addr
  d_stir_of : FuncData
  F_stir_of : Fun K "stir_of" "stir_of" s_stir_of a_stir_of d_stir_of
  g_stir_of : mg "stir_of" = some (.ref a_stir_of)
  a_is_crank : Addr
  d_is_crank : FuncData
  F_is_crank : Fun K "is_crank" "is_crank" s_is_crank a_is_crank d_is_crank
  g_is_crank : mg "is_crank" = some (.ref a_is_crank)
  a_is_engine : Addr
  d_is_engine : FuncData
  F_is_engine : Fun K "is_engine" "is_engine" s_is_engine a_is_engine d_is_engine
  g_is_engine : mg "is_engine" = some (.ref a_is_engine)
  a_check_engine : Addr
  d_check_engine : FuncData
  F_check_engine : Fun K "check_engine" "check_engine" s_check_engine a_check_engine d_check_engine
  g_check_engine : mg "check_engine" = some (.ref a_check_engine)
  a_check_order : Addr
  d_check_order : FuncData
  F_check_order : Fun K "check_order" "check_order" s_check_order a_check_order d_check_order
  g_check_order : mg "check_order" = some (.ref a_check_order)
  a_stir_by : Addr
  d_stir_by : FuncData
  F_stir_by : Fun K "stir_by" "stir_by" s_stir_by a_stir_by d_stir_by
  g_stir_by : mg "stir_by" = some (.ref a_stir_by)
  a_stir_parts : Addr
  d_stir_parts : FuncData
  F_stir_parts : Fun K "stir_parts" "stir_parts" s_stir_parts a_stir_parts d_stir_parts
  g_stir_parts : mg "stir_parts" = some (.ref a_stir_parts)
  a__law_spring : Addr
  d__law_spring : FuncData
  F__law_spring : Fun K "_law_spring" "_law_spring" s__law_spring a__law_spring d__law_spring
  g__law_spring : mg "_law_spring" = some (.ref a__law_spring)
  a__law_pull : Addr
  d__law_pull : FuncData
  F__law_pull : Fun K "_law_pull" "_law_pull" s__law_pull a__law_pull d__law_pull
  g__law_pull : mg "_law_pull" = some (.ref a__law_pull)
  a__law_from : Addr
  d__law_from : FuncData
  F__law_from : Fun K "_law_from" "_law_from" s__law_from a__law_from d__law_from
  g__law_from : mg "_law_from" = some (.ref a__law_from)
  a__law_common : Addr
  d__law_common : FuncData
  F__law_common : Fun K "_law_common" "_law_common" s__law_common a__law_common d__law_common
  g__law_common : mg "_law_common" = some (.ref a__law_common)
  a__law_frac : Addr
  d__law_frac : FuncData
  F__law_frac : Fun K "_law_frac" "_law_frac" s__law_frac a__law_frac d__law_frac
  g__law_frac : mg "_law_frac" = some (.ref a__law_frac)
  a__law_plus : Addr
  d__law_plus : FuncData
  F__law_plus : Fun K "_law_plus" "_law_plus" s__law_plus a__law_plus d__law_plus
  g__law_plus : mg "_law_plus" = some (.ref a__law_plus)
  a__law_by : Addr
  d__law_by : FuncData
  F__law_by : Fun K "_law_by" "_law_by" s__law_by a__law_by d__law_by
  g__law_by : mg "_law_by" = some (.ref a__law_by)
  a__law_over : Addr
  d__law_over : FuncData
  F__law_over : Fun K "_law_over" "_law_over" s__law_over a__law_over d__law_over
  g__law_over : mg "_law_over" = some (.ref a__law_over)
  a__law_cut : Addr
  d__law_cut : FuncData
  F__law_cut : Fun K "_law_cut" "_law_cut" s__law_cut a__law_cut d__law_cut
  g__law_cut : mg "_law_cut" = some (.ref a__law_cut)
  a__law_add : Addr
  d__law_add : FuncData
  F__law_add : Fun K "_law_add" "_law_add" s__law_add a__law_add d__law_add
  g__law_add : mg "_law_add" = some (.ref a__law_add)
  a__law_mul : Addr
  d__law_mul : FuncData
  F__law_mul : Fun K "_law_mul" "_law_mul" s__law_mul a__law_mul d__law_mul
  g__law_mul : mg "_law_mul" = some (.ref a__law_mul)
  a__law_thin : Addr
  d__law_thin : FuncData
  F__law_thin : Fun K "_law_thin" "_law_thin" s__law_thin a__law_thin d__law_thin
  g__law_thin : mg "_law_thin" = some (.ref a__law_thin)
  a__law_weight : Addr
  d__law_weight : FuncData
  F__law_weight : Fun K "_law_weight" "_law_weight" s__law_weight a__law_weight d__law_weight
  g__law_weight : mg "_law_weight" = some (.ref a__law_weight)
  a__law_stay : Addr
  d__law_stay : FuncData
  F__law_stay : Fun K "_law_stay" "_law_stay" s__law_stay a__law_stay d__law_stay
  g__law_stay : mg "_law_stay" = some (.ref a__law_stay)
  a__law_line : Addr
  d__law_line : FuncData
  F__law_line : Fun K "_law_line" "_law_line" s__law_line a__law_line d__law_line
  g__law_line : mg "_law_line" = some (.ref a__law_line)
  a__law_run : Addr
  d__law_run : FuncData
  F__law_run : Fun K "_law_run" "_law_run" s__law_run a__law_run d__law_run
  g__law_run : mg "_law_run" = some (.ref a__law_run)
  a__law_engine : Addr
  d__law_engine : FuncData
  F__law_engine : Fun K "_law_engine" "_law_engine" s__law_engine a__law_engine d__law_engine
  g__law_engine : mg "_law_engine" = some (.ref a__law_engine)
  a__law_twelfths : Addr
  d__law_twelfths : FuncData
  F__law_twelfths : Fun K "_law_twelfths" "_law_twelfths" s__law_twelfths a__law_twelfths d__law_twelfths
  g__law_twelfths : mg "_law_twelfths" = some (.ref a__law_twelfths)
  a__law_stir : Addr
  d__law_stir : FuncData
  F__law_stir : Fun K "_law_stir" "_law_stir" s__law_stir a__law_stir d__law_stir
  g__law_stir : mg "_law_stir" = some (.ref a__law_stir)
  a__law_due : Addr
  d__law_due : FuncData
  F__law_due : Fun K "_law_due" "_law_due" s__law_due a__law_due d__law_due
  g__law_due : mg "_law_due" = some (.ref a__law_due)
  a__law_right : Addr
  d__law_right : FuncData
  F__law_right : Fun K "_law_right" "_law_right" s__law_right a__law_right d__law_right
  g__law_right : mg "_law_right" = some (.ref a__law_right)
  a_law : Addr
  d_law : FuncData
  F_law : Fun K "law" "law" s_law a_law d_law
  g_law : mg "law" = some (.ref a_law)
  k_DOUBLED_COSINES : Addr
  c_DOUBLED_COSINES : mg "DOUBLED_COSINES" = some (.ref k_DOUBLED_COSINES)
  v_DOUBLED_COSINES : CT K k_DOUBLED_COSINES (.tuple [.tuple [.int 2, .int 0], .tuple [.int 0, .int 1], .tuple [.int 1, .int 0], .tuple [.int 0, .int 0], .tuple [.int (-1), .int 0], .tuple [.int 0, .int (-1)], .tuple [.int (-2), .int 0], .tuple [.int 0, .int (-1)], .tuple [.int (-1), .int 0], .tuple [.int 0, .int 0], .tuple [.int 1, .int 0], .tuple [.int 0, .int 1]])
  t_MOST_CRANKS : Tok
  c_MOST_CRANKS : mg "MOST_CRANKS" = some (.int 8 t_MOST_CRANKS)
  t_MOST_DISCS : Tok
  c_MOST_DISCS : mg "MOST_DISCS" = some (.int 8 t_MOST_DISCS)
  t_QUARTER : Tok
  c_QUARTER : mg "QUARTER" = some (.int 3 t_QUARTER)
  t_TWELFTHS : Tok
  c_TWELFTHS : mg "TWELFTHS" = some (.int 12 t_TWELFTHS)
  n_abs : mg "abs" = none
  n_all : mg "all" = none
  n_bool : mg "bool" = none
  n_enumerate : mg "enumerate" = none
  l_gcd : mg "gcd" = some (.builtin "math.gcd")
  n_int : mg "int" = none
  n_isinstance : mg "isinstance" = none
  l_lcm : mg "lcm" = some (.builtin "math.lcm")
  n_len : mg "len" = none
  n_list : mg "list" = none
  n_max : mg "max" = none
  n_range : mg "range" = none
  n_repr : mg "repr" = none
  n_tuple : mg "tuple" = none
  n_zip : mg "zip" = none
section
variable {P : Program} {w : World} {K : PySem.W.Frag} {mg : Str → Option Value} {base : Heap}
theorem b_is_whole (T : Tx K mg) : Binds K T.d_is_whole p_is_whole [] := T.F_is_whole.binds (ps := p_is_whole) fun _ _ _ _ _ _ us hl => match us, hl with | [_], _ => rfl
theorem b_is_fraction (T : Tx K mg) : Binds K T.d_is_fraction p_is_fraction [] := T.F_is_fraction.binds (ps := p_is_fraction) fun _ _ _ _ _ _ us hl => match us, hl with | [_], _ => rfl
theorem b_is_fraction_from_nought (T : Tx K mg) : Binds K T.d_is_fraction_from_nought p_is_fraction_from_nought [] := T.F_is_fraction_from_nought.binds (ps := p_is_fraction_from_nought) fun _ _ _ _ _ _ us hl => match us, hl with | [_], _ => rfl
theorem b_is_index (T : Tx K mg) : Binds K T.d_is_index p_is_index [] := T.F_is_index.binds (ps := p_is_index) fun _ _ _ _ _ _ us hl => match us, hl with | [_, _], _ => rfl
theorem b_trimmed (T : Tx K mg) : Binds K T.d_trimmed p_trimmed [] := T.F_trimmed.binds (ps := p_trimmed) fun _ _ _ _ _ _ us hl => match us, hl with | [_], _ => rfl
theorem b_blend (T : Tx K mg) : Binds K T.d_blend p_blend [] := T.F_blend.binds (ps := p_blend) fun _ _ _ _ _ _ us hl => match us, hl with | [_, _, _, _], _ => rfl
theorem b_raised (T : Tx K mg) : Binds K T.d_raised p_raised [] := T.F_raised.binds (ps := p_raised) fun _ _ _ _ _ _ us hl => match us, hl with | [_], _ => rfl
theorem b_content (T : Tx K mg) : Binds K T.d_content p_content [] := T.F_content.binds (ps := p_content) fun _ _ _ _ _ _ us hl => match us, hl with | [_], _ => rfl
theorem b_shrunk (T : Tx K mg) : Binds K T.d_shrunk p_shrunk [] := T.F_shrunk.binds (ps := p_shrunk) fun _ _ _ _ _ _ us hl => match us, hl with | [_, _], _ => rfl
theorem b_run_parts (T : Tx K mg) : Binds K T.d_run_parts p_run_parts [] := T.F_run_parts.binds (ps := p_run_parts) fun _ _ _ _ _ _ us hl => match us, hl with | [_], _ => rfl
theorem b_is_row_of_fractions (T : Tx K mg) : Binds K T.d_is_row_of_fractions p_is_row_of_fractions [] := T.F_is_row_of_fractions.binds (ps := p_is_row_of_fractions) fun _ _ _ _ _ _ us hl => match us, hl with | [_, _], _ => rfl
theorem b_is_line (T : Tx K mg) : Binds K T.d_is_line p_is_line [] := T.F_is_line.binds (ps := p_is_line) fun _ _ _ _ _ _ us hl => match us, hl with | [_], _ => rfl
theorem b_thinned_all (T : Tx K mg) : Binds K T.d_thinned_all p_thinned_all [] := T.F_thinned_all.binds (ps := p_thinned_all) fun _ _ _ _ _ _ us hl => match us, hl with | [_], _ => rfl
theorem b_pushes_of (T : Tx K mg) : Binds K T.d_pushes_of p_pushes_of [] := T.F_pushes_of.binds (ps := p_pushes_of) fun _ _ _ _ _ _ us hl => match us, hl with | [_], _ => rfl
theorem b_twelfths_of (T : Tx K mg) : Binds K T.d_twelfths_of p_twelfths_of [] := T.F_twelfths_of.binds (ps := p_twelfths_of) fun _ _ _ _ _ _ us hl => match us, hl with | [_], _ => rfl
theorem b_stir_of (T : Tx K mg) : Binds K T.d_stir_of p_stir_of [] := T.F_stir_of.binds (ps := p_stir_of) fun _ _ _ _ _ _ us hl => match us, hl with | [_, _, _], _ => rfl
theorem b_is_crank (T : Tx K mg) : Binds K T.d_is_crank p_is_crank [] := T.F_is_crank.binds (ps := p_is_crank) fun _ _ _ _ _ _ us hl => match us, hl with | [_, _], _ => rfl
theorem b_is_engine (T : Tx K mg) : Binds K T.d_is_engine p_is_engine [] := T.F_is_engine.binds (ps := p_is_engine) fun _ _ _ _ _ _ us hl => match us, hl with | [_], _ => rfl
theorem b_check_engine (T : Tx K mg) : Binds K T.d_check_engine p_check_engine [] := T.F_check_engine.binds (ps := p_check_engine) fun _ _ _ _ _ _ us hl => match us, hl with | [_], _ => rfl
theorem b_check_order (T : Tx K mg) : Binds K T.d_check_order p_check_order [] := T.F_check_order.binds (ps := p_check_order) fun _ _ _ _ _ _ us hl => match us, hl with | [_], _ => rfl
theorem b_stir_by (T : Tx K mg) : Binds K T.d_stir_by p_stir_by [] := T.F_stir_by.binds (ps := p_stir_by) fun _ _ _ _ _ _ us hl => match us, hl with | [_, _], _ => rfl
theorem b_stir_parts (T : Tx K mg) : Binds K T.d_stir_parts p_stir_parts [] := T.F_stir_parts.binds (ps := p_stir_parts) fun _ _ _ _ _ _ us hl => match us, hl with | [_, _], _ => rfl
theorem b__law_spring (T : Tx K mg) : Binds K T.d__law_spring p__law_spring [] := T.F__law_spring.binds (ps := p__law_spring) fun _ _ _ _ _ _ us hl => match us, hl with | [_, _], _ => rfl
theorem b__law_pull (T : Tx K mg) : Binds K T.d__law_pull p__law_pull [] := T.F__law_pull.binds (ps := p__law_pull) fun _ _ _ _ _ _ us hl => match us, hl with | [_, _], _ => rfl
theorem b__law_from (T : Tx K mg) : Binds K T.d__law_from p__law_from [] := T.F__law_from.binds (ps := p__law_from) fun _ _ _ _ _ _ us hl => match us, hl with | [_, _], _ => rfl
theorem b__law_common (T : Tx K mg) : Binds K T.d__law_common p__law_common [] := T.F__law_common.binds (ps := p__law_common) fun _ _ _ _ _ _ us hl => match us, hl with | [_, _], _ => rfl
theorem b__law_frac (T : Tx K mg) : Binds K T.d__law_frac p__law_frac [] := T.F__law_frac.binds (ps := p__law_frac) fun _ _ _ _ _ _ us hl => match us, hl with | [_, _], _ => rfl
theorem b__law_plus (T : Tx K mg) : Binds K T.d__law_plus p__law_plus [] := T.F__law_plus.binds (ps := p__law_plus) fun _ _ _ _ _ _ us hl => match us, hl with | [_, _], _ => rfl
theorem b__law_by (T : Tx K mg) : Binds K T.d__law_by p__law_by [] := T.F__law_by.binds (ps := p__law_by) fun _ _ _ _ _ _ us hl => match us, hl with | [_, _], _ => rfl
theorem b__law_over (T : Tx K mg) : Binds K T.d__law_over p__law_over [] := T.F__law_over.binds (ps := p__law_over) fun _ _ _ _ _ _ us hl => match us, hl with | [_, _], _ => rfl
theorem b__law_cut (T : Tx K mg) : Binds K T.d__law_cut p__law_cut [] := T.F__law_cut.binds (ps := p__law_cut) fun _ _ _ _ _ _ us hl => match us, hl with | [_], _ => rfl
theorem b__law_add (T : Tx K mg) : Binds K T.d__law_add p__law_add [] := T.F__law_add.binds (ps := p__law_add) fun _ _ _ _ _ _ us hl => match us, hl with | [_, _], _ => rfl
theorem b__law_mul (T : Tx K mg) : Binds K T.d__law_mul p__law_mul [] := T.F__law_mul.binds (ps := p__law_mul) fun _ _ _ _ _ _ us hl => match us, hl with | [_, _], _ => rfl
theorem b__law_thin (T : Tx K mg) : Binds K T.d__law_thin p__law_thin [] := T.F__law_thin.binds (ps := p__law_thin) fun _ _ _ _ _ _ us hl => match us, hl with | [_], _ => rfl
theorem b__law_weight (T : Tx K mg) : Binds K T.d__law_weight p__law_weight [] := T.F__law_weight.binds (ps := p__law_weight) fun _ _ _ _ _ _ us hl => match us, hl with | [_], _ => rfl
theorem b__law_stay (T : Tx K mg) : Binds K T.d__law_stay p__law_stay [] := T.F__law_stay.binds (ps := p__law_stay) fun _ _ _ _ _ _ us hl => match us, hl with | [_], _ => rfl
theorem b__law_line (T : Tx K mg) : Binds K T.d__law_line p__law_line [] := T.F__law_line.binds (ps := p__law_line) fun _ _ _ _ _ _ us hl => match us, hl with | [_, _], _ => rfl
theorem b__law_run (T : Tx K mg) : Binds K T.d__law_run p__law_run [] := T.F__law_run.binds (ps := p__law_run) fun _ _ _ _ _ _ us hl => match us, hl with | [_], _ => rfl
theorem b__law_engine (T : Tx K mg) : Binds K T.d__law_engine p__law_engine [] := T.F__law_engine.binds (ps := p__law_engine) fun _ _ _ _ _ _ us hl => match us, hl with | [_, _, _], _ => rfl
theorem b__law_twelfths (T : Tx K mg) : Binds K T.d__law_twelfths p__law_twelfths [] := T.F__law_twelfths.binds (ps := p__law_twelfths) fun _ _ _ _ _ _ us hl => match us, hl with | [_], _ => rfl
theorem b__law_stir (T : Tx K mg) : Binds K T.d__law_stir p__law_stir [] := T.F__law_stir.binds (ps := p__law_stir) fun _ _ _ _ _ _ us hl => match us, hl with | [_, _], _ => rfl
theorem b__law_due (T : Tx K mg) : Binds K T.d__law_due p__law_due [] := T.F__law_due.binds (ps := p__law_due) fun _ _ _ _ _ _ us hl => match us, hl with | [_, _], _ => rfl
theorem b__law_right (T : Tx K mg) : Binds K T.d__law_right p__law_right [] := T.F__law_right.binds (ps := p__law_right) fun _ _ _ _ _ _ us hl => match us, hl with | [_], _ => rfl
theorem kb_stir_parts_0 (T : Tx K mg) : KBinds K T.d_stir_parts p_stir_parts ["order", "engine"] (gP 0 2 [1, 0]) (gPV 0 2 [1, 0]) := Fun.kbindsP T.F_stir_parts (by decide) 0 2 [1, 0] fun _ _ _ _ _ _ us ws h1 h2 => match us, ws, h1, h2 with | [], [_, _], _, _ => rfl
/-! ### is_whole -/
def isWholeD : PyData → Bool
  | .int _ => true
  | _ => false
theorem isWholeD_true {d : PyData} (h : isWholeD d = true) : ∃ i, d = .int i := by
  cases d <;> simp [isWholeD] at h
  exact ⟨_, rfl⟩
def pre_is_whole : List PyData → Prop := fun ds => ∃ v, ds = [v]
def post_is_whole : List PyData → PyData → Prop := fun ds d => ∃ v, ds = [v] ∧ d = .bool (isWholeD v)
abbrev sp_is_whole (K : PySem.W.Frag) : Sp := SpP K pre_is_whole post_is_whole
theorem len_is_whole (K : PySem.W.Frag) (vs : List V) (H : Hp) (Q : VK) (E : XK) (h : sp_is_whole K vs H Q E) : vs.length = p_is_whole.length := len_P (n := 1) h fun ds hp => by
  obtain ⟨v, e⟩ := hp
  rw [e]; rfl
def t_is_whole (K : PySem.W.Frag) : TS :=
  (tRet (tAndV (tCB (rIsi K) (tCons (tVar 0) (tCons (tC (.ty "int")) tNil))) (tNotV (tCB (rIsi K) (tCons (tVar 0) (tCons (tC (.ty "bool")) tNil))))))
theorem pure_is_whole (K : PySem.W.Frag) (vs : List V) (H : Hp) (Q : VK) (E : XK) (h : sp_is_whole K vs H Q E) : t_is_whole K { nx := fun _ H' => Q .non H', rt := Q } (L2.start N_is_whole vs) H := body_P h fun B ds hW hp => by
  obtain ⟨v, e⟩ := hp
  subst e
  unfold t_is_whole
  refine st_ret (ev_andV (ev_isiInt (ev_var rfl ⟨_, rfl, fun hb => ?_, fun hb => ⟨_, rfl, ?_⟩⟩)))
  · refine ev_notV (ev_isiBool (ev_var rfl ⟨_, rfl, _, rfl, ?_⟩))
    cases v <;> simp_all [isIntT, isBoolT, isWholeD]
  · cases v <;> simp_all [isIntT, isBoolT, isWholeD]
theorem ok_is_whole (T : Tx K mg) : FnOk P w K mg base CX0 1 T.a_is_whole T.d_is_whole p_is_whole (sp_is_whole K) := by
  refine T.F_is_whole.ok sc_is_whole (fun vs H Q E h => len_is_whole K vs H Q E h) (fun cdv A outer s H vs Q E hr h => ?_)
  exact ⟨t_is_whole K, (pss_one (ps_ret (pe_and (pe_callB call_isi (by rfl) T.n_isinstance (by decide +kernel) (pa_cons (pv 0) (pa_cons (pe_bltn (v := .ty "int") (by rfl) T.n_int (by decide +kernel) rfl) pa_nil))) (pe_one (pe_not (pe_callB call_isi (by rfl) T.n_isinstance (by decide +kernel) (pa_cons (pv 0) (pa_cons (pe_bltn (v := .ty "bool") (by rfl) T.n_bool (by decide +kernel) rfl) pa_nil)))))))), pure_is_whole K vs H Q E h⟩
/-! ### is_fraction -/
def isPairD : PyData → PyData → Bool
  | .int n, .int m => decide (0 < m) && decide (((Nat.gcd n.natAbs m.natAbs : Nat) : Int) = 1)
  | _, _ => false
def isTwoD : List PyData → Bool
  | [x, y] => isPairD x y
  | _ => false
def isFracD : PyData → Bool
  | .tuple ds => isTwoD ds
  | _ => false
theorem isFrac_len {xs : List PyData} (h : xs.length ≠ 2) : isFracD (.tuple xs) = false := by
  match xs with
  | [] => rfl
  | [a] => rfl
  | [a, b] => exact absurd rfl h
  | a :: b :: c :: r => rfl
theorem isFracD_true {d : PyData} (h : isFracD d = true) : ∃ n m : Int, d = .tuple [.int n, .int m] ∧ 0 < m ∧ Nat.gcd n.natAbs m.natAbs = 1 := by
  cases d with
  | tuple ds =>
    match ds with
    | [] => cases h
    | [a] => cases h
    | a :: b :: c :: r => cases h
    | [a, b] =>
      cases a with
      | int n =>
        cases b with
        | int m =>
          have h2 : (decide (0 < m) && decide (((Nat.gcd n.natAbs m.natAbs : Nat) : Int) = 1)) = true := h
          rw [Bool.and_eq_true] at h2
          have h3 := of_decide_eq_true h2.1
          have h4 := of_decide_eq_true h2.2
          exact ⟨n, m, rfl, h3, by omega⟩
        | _ => cases h
      | _ => cases b <;> cases h
  | _ => cases h
def pre_is_fraction : List PyData → Prop := fun ds => ∃ v, ds = [v]
def post_is_fraction : List PyData → PyData → Prop := fun ds d => ∃ v, ds = [v] ∧ d = .bool (isFracD v)
abbrev sp_is_fraction (K : PySem.W.Frag) : Sp := SpP K pre_is_fraction post_is_fraction
theorem len_is_fraction (K : PySem.W.Frag) (vs : List V) (H : Hp) (Q : VK) (E : XK) (h : sp_is_fraction K vs H Q E) : vs.length = p_is_fraction.length := len_P (n := 1) h fun ds hp => by
  obtain ⟨v, e⟩ := hp
  rw [e]; rfl
def t_is_fraction (K : PySem.W.Frag) : TS :=
  (tSeq (tIfS (tOr (tNot (tB (tCB (rIsi K) (tCons (tVar 0) (tCons (tC (.ty "tuple")) tNil))))) (tTest (tOp rNe (tCB (rLenQ K) (tCons (tVar 0) tNil)) (tC (.int 2))))) (tRet (tC (.bl false))) tNext)
  (tSeq (tAsg (tVar 0) (gTup K 2 (gCons (gName 1) (gCons (gName 2) gNil))))
  (tSeq (tIfS (tOr (tNot (tB (tCall (sp_is_whole K) [] E0 (tCons (tVar 1) tNil)))) (tNot (tB (tCall (sp_is_whole K) [] E0 (tCons (tVar 2) tNil))))) (tRet (tC (.bl false))) tNext)
  (tRet (tAndV (tOp (rI0 fun i j => .bl (decide (j < i))) (tVar 2) (tC (.int 0))) (tOp rEq (tCB rGcd (tCons (tVar 1) (tCons (tVar 2) tNil))) (tC (.int 1))))))))
theorem pure_is_fraction (K : PySem.W.Frag) (vs : List V) (H : Hp) (Q : VK) (E : XK) (h : sp_is_fraction K vs H Q E) : t_is_fraction K { nx := fun _ H' => Q .non H', rt := Q } (L2.start N_is_fraction vs) H := body_P h fun B ds hW hp => by
  obtain ⟨v, e⟩ := hp
  subst e
  unfold t_is_fraction
  refine st_seq (st_if (et_or (et_not (et_B (ev_isiTup (ev_var rfl ⟨_, rfl, fun hb => ?_, fun hb => ⟨fun _ => ?_, fun z => nomatch z⟩⟩))))))
  · obtain ⟨xs, rfl⟩ := isTupT_true (d := v) (by simpa using hb)
    refine et_test (ev_op (ev_cb (ea_cons (ev_var rfl (ea_nil (co_lenT (ev_int (rok_neI ⟨_, rfl, fun hb => ?_, fun hb => ?_⟩))))))))
    · refine st_ret (ev_bl ⟨_, rfl, ?_⟩)
      rw [isFrac_len]
      intro z
      rw [z] at hb
      cases hb
    · have hl : xs.length = 2 := by
        simp at hb
        omega
      obtain ⟨a, b, rfl⟩ : ∃ a b, xs = [a, b] := by
        match xs, hl with
        | [a, b], _ => exact ⟨a, b, rfl⟩
      refine st_next (st_seq (st_unpack (ev_var rfl ⟨_, rfl, rfl, tg_cons (tg_cons (tg_nil ?_))⟩)))
      refine st_seq (st_if (et_or (et_not (et_B (ev_callP (ea_cons (ev_var rfl (ea_nil ⟨⟨_, rfl⟩, fun d ⟨v, ev, ed⟩ => ?_⟩))))))))
      cases ev
      refine ⟨_, ed, fun hb => ?_, fun hb => ⟨fun _ => ?_, fun z => nomatch z⟩⟩
      · obtain ⟨n, rfl⟩ := isWholeD_true (d := a) (by simpa using hb)
        refine et_not (et_B (ev_callP (ea_cons (ev_var rfl (ea_nil ⟨⟨_, rfl⟩, fun d ⟨v, ev, ed⟩ => ?_⟩)))))
        cases ev
        refine ⟨_, ed, fun hb2 => ?_, fun hb2 => ?_⟩
        · refine st_ret (ev_bl ⟨_, rfl, ?_⟩)
          cases b <;> first | rfl | cases hb2
        · obtain ⟨m, rfl⟩ := isWholeD_true (d := b) (by simpa using hb2)
          refine st_next (st_ret (ev_andV (ev_op (ev_var rfl (ev_int (rok_b0 ⟨_, rfl, fun hb3 => ?_, fun hb3 => ?_⟩))))))
          · refine ev_op (ev_cb (ea_cons (ev_var rfl (ea_cons (ev_var rfl (ea_nil (cok_gcd (ev_int (rok_eqI ⟨_, rfl, ?_⟩)))))))))
            show _ = PyData.bool (decide (0 < m) && decide (((Nat.gcd n.natAbs m.natAbs : Nat) : Int) = 1))
            rw [hb3, Bool.true_and]
          · refine ⟨_, rfl, ?_⟩
            show _ = PyData.bool (decide (0 < m) && decide (((Nat.gcd n.natAbs m.natAbs : Nat) : Int) = 1))
            rw [hb3, Bool.false_and]
      · refine st_ret (ev_bl ⟨_, rfl, ?_⟩)
        cases a <;> first | rfl | cases hb
  · refine st_ret (ev_bl ⟨_, rfl, ?_⟩)
    cases v <;> first | rfl | cases hb
theorem frD_is {x : Fr} (h : FOk x) : isFracD (frD x) = true := by
  show (decide (0 < x.2) && decide (((Nat.gcd x.1.natAbs x.2.natAbs : Nat) : Int) = 1)) = true
  rw [decide_eq_true h.1, decide_eq_true (by rw [h.2]; rfl)]
  rfl

theorem ok_is_fraction (T : Tx K mg) : FnOk P w K mg base CX0 2 T.a_is_fraction T.d_is_fraction p_is_fraction (sp_is_fraction K) := by
  refine T.F_is_fraction.ok sc_is_fraction (fun vs H Q E h => len_is_fraction K vs H Q E h) (fun cdv A outer s H vs Q E hr h => ?_)
  exact ⟨t_is_fraction K, (pss_cons (ps_if (PW.pt (pw_or (pt_not (pt_val (pe_callB call_isi (by rfl) T.n_isinstance (by decide +kernel) (pa_cons (pv 0) (pa_cons (pe_bltn (v := .ty "tuple") (by rfl) T.n_tuple (by decide +kernel) rfl) pa_nil))))) (pw_or1 (pt_cmpR op_ne (pe_callB call_len_seq (by rfl) T.n_len (by decide +kernel) (pa_cons (pv 0) pa_nil)) pe_int (nomark _))))) (pss_one (ps_ret pe_bl)) pss_nil)
  (pss_cons (ps_asg (pv 0) (pg_tup (by rfl) (pgs_cons (pg_name (i := 1) sc_is_fraction.nd rfl (Or.inl rfl)) (pgs_cons (pg_name (i := 2) sc_is_fraction.nd rfl (Or.inl rfl)) pgs_nil))))
  (pss_cons (ps_if (PW.pt (pw_or (pt_not (pt_val (pe_call (ok_is_whole T) (hr.mono (by decide)) rfl T.g_is_whole T.F_is_whole.kp (b_is_whole T) .nil pass0 (pa_cons (pv 1) pa_nil)))) (pw_or1 (pt_not (pt_val (pe_call (ok_is_whole T) (hr.mono (by decide)) rfl T.g_is_whole T.F_is_whole.kp (b_is_whole T) .nil pass0 (pa_cons (pv 2) pa_nil))))))) (pss_one (ps_ret pe_bl)) pss_nil)
  (pss_one (ps_ret (pe_and (pe_cmpR op_gt (pv 2) pe_int (nomark _)) (pe_one (pe_cmpR op_eq (pe_callBfun cr_gcd (by rfl) T.l_gcd (pa_cons (pv 1) (pa_cons (pv 2) pa_nil))) pe_int (nomark _))))))))), pure_is_fraction K vs H Q E h⟩
/-! ### is_fraction_from_nought -/
def numD : PyData → Int
  | .tuple (.int n :: _) => n
  | _ => 0
def isRowItem (d : PyData) : Bool := isFracD d && decide (0 ≤ numD d)
def isRowD (v : PyData) (n : Int) : Bool := match v with
  | .tuple xs => decide ((xs.length : Int) = n) && xs.all isRowItem
  | _ => false

def pre_is_fraction_from_nought : List PyData → Prop := fun ds => ∃ v, ds = [v]
def post_is_fraction_from_nought : List PyData → PyData → Prop := fun ds d => ∃ v, ds = [v] ∧ d = .bool (isRowItem v)
abbrev sp_is_fraction_from_nought (K : PySem.W.Frag) : Sp := SpP K pre_is_fraction_from_nought post_is_fraction_from_nought
theorem len_is_fraction_from_nought (K : PySem.W.Frag) (vs : List V) (H : Hp) (Q : VK) (E : XK) (h : sp_is_fraction_from_nought K vs H Q E) : vs.length = p_is_fraction_from_nought.length := len_P (n := 1) h fun ds hp => by
  obtain ⟨v, e⟩ := hp
  rw [e]; rfl
def t_is_fraction_from_nought (K : PySem.W.Frag) : TS :=
  (tRet (tAndV (tCall (sp_is_fraction K) [] E0 (tCons (tVar 0) tNil)) (tOp (rI0 fun i j => .bl (decide (j ≤ i))) (tOp (rIx K) (tVar 0) (tC (.int 0))) (tC (.int 0)))))
theorem pure_is_fraction_from_nought (K : PySem.W.Frag) (vs : List V) (H : Hp) (Q : VK) (E : XK) (h : sp_is_fraction_from_nought K vs H Q E) : t_is_fraction_from_nought K { nx := fun _ H' => Q .non H', rt := Q } (L2.start N_is_fraction_from_nought vs) H := body_P h fun B ds hW hp => by
  obtain ⟨v, e⟩ := hp
  subst e
  unfold t_is_fraction_from_nought
  refine st_ret (ev_andV (ev_callP (ea_cons (ev_var rfl (ea_nil ⟨⟨_, rfl⟩, fun d ⟨v', ev, ed⟩ => ?_⟩)))))
  cases ev
  refine ⟨_, ed, fun hb => ?_, fun hb => ⟨_, rfl, ?_⟩⟩
  · obtain ⟨p, q, rfl, hq, hg⟩ := isFracD_true hb
    refine ev_op (ev_op (ev_var rfl (ev_int (rok_ixsT (d := .int p) rfl (ev_int (rok_b0 ⟨_, rfl, ?_⟩))))))
    show _ = PyData.bool (isFracD (.tuple [.int p, .int q]) && decide (0 ≤ p))
    rw [hb, Bool.true_and]
  · show _ = PyData.bool (isFracD v && decide (0 ≤ numD v))
    rw [hb]
    rfl
theorem ok_is_fraction_from_nought (T : Tx K mg) : FnOk P w K mg base CX0 3 T.a_is_fraction_from_nought T.d_is_fraction_from_nought p_is_fraction_from_nought (sp_is_fraction_from_nought K) := by
  refine T.F_is_fraction_from_nought.ok sc_is_fraction_from_nought (fun vs H Q E h => len_is_fraction_from_nought K vs H Q E h) (fun cdv A outer s H vs Q E hr h => ?_)
  exact ⟨t_is_fraction_from_nought K, (pss_one (ps_ret (pe_and (pe_call (ok_is_fraction T) (hr.mono (by decide)) rfl T.g_is_fraction T.F_is_fraction.kp (b_is_fraction T) .nil pass0 (pa_cons (pv 0) pa_nil)) (pe_one (pe_cmpR op_ge (pe_ix ix_seq (pv 0) pe_int (fun _ _ => rfl)) pe_int (nomark _)))))), pure_is_fraction_from_nought K vs H Q E h⟩
/-! ### is_index -/

def pre_is_index : List PyData → Prop := fun ds => ∃ a b : Int, ds = [.int a, .int b]
def post_is_index : List PyData → PyData → Prop := fun ds d => ∃ a b : Int, ds = [.int a, .int b] ∧ d = .bool (decide (0 ≤ a) && decide (a < b))
abbrev sp_is_index (K : PySem.W.Frag) : Sp := SpP K pre_is_index post_is_index
theorem len_is_index (K : PySem.W.Frag) (vs : List V) (H : Hp) (Q : VK) (E : XK) (h : sp_is_index K vs H Q E) : vs.length = p_is_index.length := len_P (n := 2) h fun ds hp => by
  obtain ⟨a, b, e⟩ := hp
  rw [e]; rfl
def t_is_index (K : PySem.W.Frag) : TS :=
  (tRet (tAndV (tCall (sp_is_whole K) [] E0 (tCons (tVar 0) tNil)) (tChain (rI0 fun i j => .bl (decide (i ≤ j))) (rI0 fun i j => .bl (decide (i < j))) (tC (.int 0)) (tVar 0) (tVar 1))))
theorem pure_is_index (K : PySem.W.Frag) (vs : List V) (H : Hp) (Q : VK) (E : XK) (h : sp_is_index K vs H Q E) : t_is_index K { nx := fun _ H' => Q .non H', rt := Q } (L2.start N_is_index vs) H := body_P h fun B ds hW hp => by
  obtain ⟨a, b, e⟩ := hp
  subst e
  unfold t_is_index
  refine st_ret (ev_andV (ev_callP (ea_cons (ev_var rfl (ea_nil ⟨⟨_, rfl⟩, fun d ⟨v, ev, ed⟩ => ?_⟩)))))
  cases ev
  subst ed
  refine ⟨true, rfl, fun _ => ?_, (fun z => nomatch z)⟩
  refine ev_chain (ev_int (ev_var rfl (rok_b0 ⟨_, rfl, fun hb => ?_, fun hb => ?_⟩)))
  · refine ev_var rfl (rok_b0 ⟨a, b, rfl, ?_⟩)
    rw [hb]
    rfl
  · refine ⟨a, b, rfl, ?_⟩
    rw [hb]
    rfl
theorem ok_is_index (T : Tx K mg) : FnOk P w K mg base CX0 2 T.a_is_index T.d_is_index p_is_index (sp_is_index K) := by
  refine T.F_is_index.ok sc_is_index (fun vs H Q E h => len_is_index K vs H Q E h) (fun cdv A outer s H vs Q E hr h => ?_)
  exact ⟨t_is_index K, (pss_one (ps_ret (pe_and (pe_call (ok_is_whole T) (hr.mono (by decide)) rfl T.g_is_whole T.F_is_whole.kp (b_is_whole T) .nil pass0 (pa_cons (pv 0) pa_nil)) (pe_one (pe_chain op_le op_lt pe_int (pv 0) (pv 1)))))), pure_is_index K vs H Q E h⟩
/-! ### trimmed -/
def pre_trimmed : List PyData → Prop := fun ds => ∃ ns : List Int, ds = [.list (ns.map .int)] ∧ ns.length ≤ 1000
def post_trimmed : List PyData → PyData → Prop := fun ds d => ∃ ns : List Int, ds = [.list (ns.map .int)] ∧ d = .tuple ((trim ns).map .int)
abbrev sp_trimmed (K : PySem.W.Frag) : Sp := SpP K pre_trimmed post_trimmed
theorem len_trimmed (K : PySem.W.Frag) (vs : List V) (H : Hp) (Q : VK) (E : XK) (h : sp_trimmed K vs H Q E) : vs.length = p_trimmed.length := len_P (n := 1) h fun ds hp => by
  obtain ⟨ns, e, hl⟩ := hp
  rw [e]; rfl
def t_trimmed (K : PySem.W.Frag) : TS :=
  (tSeq (tAsg (tCB (rLenQ K) (tCons (tVar 0) tNil)) (gName 1))
  (tSeq (tWhile (tAnd (tTest (tOp (rI0 fun i j => .bl (decide (j < i))) (tVar 1) (tC (.int 0)))) (tTest (tOp rEq (tOp (rIx K) (tVar 0) (tOp (rI0 fun i j => .int (i - j)) (tVar 1) (tC (.int 1)))) (tC (.int 0))))) (tAug 1 (tC (.int 1)) (ipI fun i j => i - j)))
  (tRet (tCB (rTupleQ K) (tCons (tSl (rSlX2 K) (tVar 0) tNoPart (tPart (tVar 1))) tNil)))))
theorem pure_trimmed (K : PySem.W.Frag) (vs : List V) (H : Hp) (Q : VK) (E : XK) (h : sp_trimmed K vs H Q E) : t_trimmed K { nx := fun _ H' => Q .non H', rt := Q } (L2.start N_trimmed vs) H := body_P h fun B ds hW hp => by
  obtain ⟨ns, e, hl⟩ := hp
  subst e
  unfold t_trimmed
  refine st_seq (st_asg (ev_cb (ea_cons (ev_var rfl (ea_nil (co_lenL ?_))))))
  rw [List.length_map]
  refine st_seq (st_while (fun m L2 Γ2 => L2 = [] ∧ Γ2 = [.d (.list (ns.map .int)), .d (.int (m : Int))] ∧ m ≤ ns.length ∧ ∀ x ∈ ns.drop m, x = 0) ns.length ⟨rfl, rfl, Nat.le_refl _, by simp⟩ ?_)
  rintro m L2 Γ2 ⟨rfl, rfl, hm, hz⟩
  walk_at "dd"
  refine ⟨fun hb => ?_, fun hb => ?_⟩
  · have hm0 : 0 < m := by
      have := of_decide_eq_true hb
      omega
    have hg : ns[m - 1]? = some (ns.getD (m - 1) 0) := by
      rw [List.getD_eq_getElem?_getD, List.getElem?_eq_getElem (by omega)]
      rfl
    walk_at "dd"
    refine rok_ixsL (d := .int (ns.getD (m - 1) 0)) ?_ ?_
    · rw [show ((m : Int) - 1) = ((m - 1 : Nat) : Int) by omega, atI_n, List.getElem?_map, hg]
      rfl
    walk_at "dd"
    refine ⟨fun hb2 => ?_, fun hb2 => ?_⟩
    · have e0 : ns.getD (m - 1) 0 = 0 := of_decide_eq_true hb2
      refine st_augI rfl (ev_int ⟨_, rfl, m - 1, by omega, rfl, ?_, by omega, fun x hx => ?_⟩)
      · rw [show ((m : Int) - 1) = ((m - 1 : Nat) : Int) by omega]
        rfl
      · have : ns.drop (m - 1) = ns.getD (m - 1) 0 :: ns.drop m := by
          rw [List.drop_eq_getElem_cons (by omega), show m - 1 + 1 = m by omega]
          rw [List.getD_eq_getElem?_getD, List.getElem?_eq_getElem (by omega)]
          rfl
        rw [this] at hx
        rcases List.mem_cons.mp hx with h | h
        · rw [h, e0]
        · exact hz x h
    · have e0 : ns.getD (m - 1) 0 ≠ 0 := of_decide_eq_false hb2
      walk_at "dd"
      refine co_tupL ⟨ns, rfl, ?_⟩
      rw [cutD_take _ (by rw [List.length_map]; exact hm), ← List.map_take, trim_take hz (fun _ => e0)]
  · have hm0 : m = 0 := by
      have := of_decide_eq_false hb
      omega
    subst hm0
    refine ⟨(fun z => nomatch z), fun _ => ?_⟩
    walk_at "dd"
    refine co_tupL ⟨ns, rfl, ?_⟩
    rw [cutD_take _ (by rw [List.length_map]; exact hm), ← List.map_take, trim_take hz (fun z => absurd z (by omega))]
theorem ok_trimmed (T : Tx K mg) : FnOk P w K mg base CX0 1 T.a_trimmed T.d_trimmed p_trimmed (sp_trimmed K) := by
  refine T.F_trimmed.ok sc_trimmed (fun vs H Q E h => len_trimmed K vs H Q E h) (fun cdv A outer s H vs Q E hr h => ?_)
  exact ⟨t_trimmed K, (pss_cons (ps_set (i := 1) sc_trimmed.nd rfl (Or.inl rfl) (pe_callB call_len_seq (by rfl) T.n_len (by decide +kernel) (pa_cons (pv 0) pa_nil)))
  (pss_cons (ps_while PassesOwn.never (PW.pt (pw_and (pt_cmpR op_gt (pv 1) pe_int (nomark _)) (pw_and1 (pt_cmpR op_eq (pe_ix ix_seq (pv 0) (pe_op op_sub (pv 1) pe_int) (fun _ _ => rfl)) pe_int (nomark _))))) (pss_one (ps_aug (i := 1) sc_trimmed.nd rfl (Or.inl rfl) pe_int ip_sub)))
  (pss_one (ps_ret (pe_callTy call_tuple_of (by rfl) T.n_tuple (by decide +kernel) (pa_cons (pe_slice sl_any (pv 0) po_none (po_some (pv 1))) pa_nil)))))), pure_trimmed K vs H Q E h⟩
/-! ### blend -/
def pre_blend : List PyData → Prop := fun ds => ∃ (u v : List Int) (a b : Int), ds = [.tuple (u.map .int), .int a, .tuple (v.map .int), .int b] ∧ u.length ≤ 400 ∧ v.length ≤ 400 ∧ a.natAbs < 2 ^ 4000 ∧ b.natAbs < 2 ^ 4000 ∧ bd u 4000 ∧ bd v 4000
def post_blend : List PyData → PyData → Prop := fun ds d => ∃ (u v : List Int) (a b : Int), ds = [.tuple (u.map .int), .int a, .tuple (v.map .int), .int b] ∧ d = .tuple ((trim (comb a u b v)).map .int)
abbrev sp_blend (K : PySem.W.Frag) : Sp := SpP K pre_blend post_blend
theorem len_blend (K : PySem.W.Frag) (vs : List V) (H : Hp) (Q : VK) (E : XK) (h : sp_blend K vs H Q E) : vs.length = p_blend.length := len_P (n := 4) h fun ds hp => by
  obtain ⟨u, v, a, b, e, hu, hv, ha, hb, bu, bv⟩ := hp
  rw [e]; rfl
def t_blend (K : PySem.W.Frag) : TS :=
  (tSeq (tAsg (tLc (iTup K (tVar 0)) (gName 4) tYes (tOp (rMulA K) (tVar 1) (tVar 4)) [4]) (gName 5))
  (tSeq (tDrop (tBM K "list" rExtend (tVar 5) (tCons (tOp (rMulA K) (tLst (tCons (tC (.int 0)) tNil)) (tOp (rI0 fun i j => .int (i - j)) (tCB (rLenQ K) (tCons (tVar 2) tNil)) (tCB (rLenQ K) (tCons (tVar 0) tNil)))) tNil)))
  (tSeq (tFor (iEnumT K (tCons (tVar 2) tNil)) (gTup K 2 (gCons (gName 6) (gCons (gName 4) gNil))) (tAugS (tVar 5) (tVar 6) (tOp (rMulA K) (tVar 3) (tVar 4)) (rGetL K) (ipI fun i j => i + j) rSetL))
  (tRet (tCall (sp_trimmed K) [] E0 (tCons (tVar 5) tNil))))))
theorem pure_blend (K : PySem.W.Frag) (vs : List V) (H : Hp) (Q : VK) (E : XK) (h : sp_blend K vs H Q E) : t_blend K { nx := fun _ H' => Q .non H', rt := Q } (L2.start N_blend vs) H := body_P h fun B ds hW hp => by
  obtain ⟨u, v, a, b, e, hu, hv, ha, hb, bu, bv⟩ := hp
  subst e
  unfold t_blend
  refine st_seq (st_own (en_lcT (wipe1 4) (ev_var rfl ⟨_, rfl, by simp; omega, fun i acc => acc = ((u.take i).map fun x => PyData.int (a * x)), ⟨rfl, fun i D d' acc hi hJ hin => ?_⟩, fun acc hJ => ?_⟩)))
  · obtain ⟨x, hx, rfl⟩ : ∃ x, u[i]? = some x ∧ d' = .int x := map_get hi
    refine et_yes ⟨fun _ => ?_, fun z => nomatch z⟩
    refine ev_op (ev_var rfl (ev_var rfl (ro_mulW (mulW_of (m := 4000) (n := 4000) ha (bu _ (List.mem_of_getElem? hx)) (by decide)) ?_)))
    subst hJ
    rw [List.take_add_one, hx, List.map_append]
    rfl
  · intro l
    rw [List.length_map, List.take_length] at hJ
    subst hJ
    refine st_seq (st_extend rfl ?_)
    walk_at "dd"
    refine ro_repN (by simp; omega) (by simp; omega) (by simp; omega) ⟨_, rfl, by simp; omega, ?_⟩
    have e1 : (u.map fun x => PyData.int (a * x)) ++ (List.replicate (((v.map PyData.int).length : Int) - ((u.map PyData.int).length : Int)).toNat [PyData.int 0]).flatten = (sums a u b v 0).map PyData.int := by
      rw [sums_zero, List.map_append, List.map_map, List.length_map, List.length_map, List.map_replicate, List.flatten_replicate_singleton]
      congr 2
      omega
    rw [e1]
    refine st_seq (st_forE (ea_cons (ev_var rfl (ea_nil ⟨_, rfl, fun i L2 Γ2 => ∃ s1 s2 : Sl, L2 = [l] ∧ Γ2 = [.d (.tuple (u.map .int)), .d (.int a), .d (.tuple (v.map .int)), .d (.int b), s1, .own l ((sums a u b v i).map .int), s2], ⟨_, _, rfl, rfl⟩, ?_, ?_⟩))))
    · rintro i d' L2 Γ2 g hi ⟨s1, s2, rfl, rfl⟩
      obtain ⟨y, hy, rfl⟩ : ∃ x, v[i]? = some x ∧ d' = .int x := map_get hi
      have hi2 : i < v.length := (List.getElem?_eq_some_iff.mp hy).1
      refine st_addOwn rfl (ev_var rfl ⟨i, a * u.getD i 0, rfl, ?_, ?_⟩)
      · rw [List.getElem?_map, sums_at a u b v i i (by omega), if_neg (by omega)]
        simp
      · refine ev_op (ev_var rfl (ev_var rfl (ro_mulW (mulW_of (m := 4000) (n := 4000) hb (bv _ (List.mem_of_getElem? hy)) (by decide)) ?_)))
        refine ⟨_, rfl, .d (.int y), .d (.int (i : Int)), rfl, ?_⟩
        rw [sums_step hy, List.map_set]
        rfl
    · rintro L2 Γ2 ⟨s1, s2, rfl, rfl⟩
      rw [List.length_map, sums_all]
      refine st_freeze 5 rfl (by simp) (st_ret (ev_callP (ea_cons (ev_var rfl (ea_nil ⟨⟨_, rfl, by rw [comb_len]; omega⟩, fun d ⟨ns, en, ed⟩ => ?_⟩)))))
      cases map_int_inj (by injection en with en; injection en)
      exact ⟨u, v, a, b, rfl, ed⟩
theorem ok_blend (T : Tx K mg) : FnOk P w K mg base CX0 2 T.a_blend T.d_blend p_blend (sp_blend K) := by
  refine T.F_blend.ok sc_blend (fun vs H Q E h => len_blend K vs H Q E h) (fun cdv A outer s H vs Q E hr h => ?_)
  exact ⟨t_blend K, (pss_cons (ps_setLc (i := 5) (own := [("number", 4)]) (by rfl) sc_blend.nd rfl rfl (sw_true rfl rfl rfl (by decide +kernel)) (pi_tup (pv 0)) (blkOk_by (own := [("number", 4)]) (N := N_blend) (sc := defScope s_blend) (by decide +kernel)) (fun _ _ _ _ _ => pg_name (i := 4) sc_blend.nd rfl (Or.inl rfl)) (fun _ _ _ _ _ => pts_nil) (fun _ _ _ _ _ => (pe_op op_mulA (pv 1) (pv 4))))
  (pss_cons (ps_expr (pe_bm PySem.F.plainAttrs_list PySem.F.slot_list_extend PySem.F.type_list_extend mt_extend (pv 5) (pa_cons (pe_op op_mulA (pe_lst (pa_cons pe_int pa_nil)) (pe_op op_sub (pe_callB call_len_seq (by rfl) T.n_len (by decide +kernel) (pa_cons (pv 2) pa_nil)) (pe_callB call_len_seq (by rfl) T.n_len (by decide +kernel) (pa_cons (pv 0) pa_nil)))) pa_nil)))
  (pss_cons (ps_for PassesOwn.never rfl (pi_enumT (by rfl) T.n_enumerate (pa_cons (pv 2) pa_nil)) (pg_tup (by rfl) (pgs_cons (pg_name (i := 6) sc_blend.nd rfl (Or.inl rfl)) (pgs_cons (pg_name (i := 4) sc_blend.nd rfl (Or.inl rfl)) pgs_nil))) (pss_one (ps_augS (pv 5) (pv 6) get_list (pe_op op_mulA (pv 3) (pv 4)) ip_add set_list)))
  (pss_one (ps_ret (pe_call (ok_trimmed T) (hr.mono (by decide)) rfl T.g_trimmed T.F_trimmed.kp (b_trimmed T) .nil pass0 (pa_cons (pv 5) pa_nil))))))), pure_blend K vs H Q E h⟩
/-! ### raised -/

def pre_raised : List PyData → Prop := fun ds => ∃ u : List Int, ds = [.tuple (u.map .int)] ∧ u.length ≤ 400
def post_raised : List PyData → PyData → Prop := fun ds d => ∃ u : List Int, ds = [.tuple (u.map .int)] ∧ d = .tuple ((rsd u).map .int)
abbrev sp_raised (K : PySem.W.Frag) : Sp := SpP K pre_raised post_raised
theorem len_raised (K : PySem.W.Frag) (vs : List V) (H : Hp) (Q : VK) (E : XK) (h : sp_raised K vs H Q E) : vs.length = p_raised.length := len_P (n := 1) h fun ds hp => by
  obtain ⟨u, e, hl⟩ := hp
  rw [e]; rfl
def t_raised (K : PySem.W.Frag) : TS :=
  (tSeq (tIfS (tNot (tTru K (tVar 0))) (tRet (tTup tNil)) tNext)
  (tRet (tOp (rAddA K) (tTup (tCons (tC (.int 0)) tNil)) (tVar 0))))
theorem pure_raised (K : PySem.W.Frag) (vs : List V) (H : Hp) (Q : VK) (E : XK) (h : sp_raised K vs H Q E) : t_raised K { nx := fun _ H' => Q .non H', rt := Q } (L2.start N_raised vs) H := body_P h fun B ds hW hp => by
  obtain ⟨u, e, hl⟩ := hp
  subst e
  unfold t_raised
  refine st_seq (st_if (et_not (et_tru (ev_var rfl ⟨trivial, fun hb => ?_, fun hb => ?_⟩))))
  · have un : u = [] := by
      cases u with
      | nil => rfl
      | cons x xs => cases hb
    subst un
    exact st_ret (ev_tup (ea_nil ⟨by simp, [], rfl, rfl⟩))
  · have un : u ≠ [] := fun z => by
      subst z
      cases hb
    walk_at "dd"
    exact ro_catT (by simp; omega) ⟨u, rfl, by rw [rsd_ne un]; rfl⟩
theorem ok_raised (T : Tx K mg) : FnOk P w K mg base CX0 1 T.a_raised T.d_raised p_raised (sp_raised K) := by
  refine T.F_raised.ok sc_raised (fun vs H Q E h => len_raised K vs H Q E h) (fun cdv A outer s H vs Q E hr h => ?_)
  exact ⟨t_raised K, (pss_cons (ps_if (pt_not (pt_truth (pv 0) (by intro _; rfl))) (pss_one (ps_ret (pe_tup pa_nil))) pss_nil)
  (pss_one (ps_ret (pe_op op_addA (pe_tup (pa_cons pe_int pa_nil)) (pv 0))))), pure_raised K vs H Q E h⟩
/-! ### content -/
def pre_content : List PyData → Prop := fun ds => ∃ u : List Int, ds = [.tuple (u.map .int)] ∧ u.length ≤ 400
def post_content : List PyData → PyData → Prop := fun ds d => ∃ u : List Int, ds = [.tuple (u.map .int)] ∧ d = .int ((gcdL u : Nat) : Int)
abbrev sp_content (K : PySem.W.Frag) : Sp := SpP K pre_content post_content
theorem len_content (K : PySem.W.Frag) (vs : List V) (H : Hp) (Q : VK) (E : XK) (h : sp_content K vs H Q E) : vs.length = p_content.length := len_P (n := 1) h fun ds hp => by
  obtain ⟨u, e, hl⟩ := hp
  rw [e]; rfl
def t_content (K : PySem.W.Frag) : TS :=
  (tSeq (tAsg (tC (.int 0)) (gName 1))
  (tSeq (tFor (iTup K (tVar 0)) (gName 2) (tSeq (tAsg (tCB rGcd (tCons (tVar 1) (tCons (tVar 2) tNil))) (gName 1))
  (tIfS (tTest (tOp rEq (tVar 1) (tC (.int 1)))) (tRet (tC (.int 1))) tNext)))
  (tRet (tVar 1))))
theorem pure_content (K : PySem.W.Frag) (vs : List V) (H : Hp) (Q : VK) (E : XK) (h : sp_content K vs H Q E) : t_content K { nx := fun _ H' => Q .non H', rt := Q } (L2.start N_content vs) H := body_P h fun B ds hW hp => by
  obtain ⟨u, e, hl⟩ := hp
  subst e
  unfold t_content
  refine st_seq (st_asg (ev_int ?_))
  refine st_seq (st_forT (ev_var rfl ⟨_, rfl, fun i L2 Γ2 => ∃ s : Sl, L2 = [] ∧ Γ2 = [.d (.tuple (u.map .int)), .d (.int ((gcdL (u.take i) : Nat) : Int)), s], ⟨_, rfl, rfl⟩, ?_, ?_⟩))
  · rintro i d' L2 Γ2 g hi ⟨s, rfl, rfl⟩
    obtain ⟨x, hx, rfl⟩ : ∃ x, u[i]? = some x ∧ d' = .int x := map_get hi
    have e1 : gcdL (u.take (i + 1)) = Nat.gcd ((gcdL (u.take i) : Nat) : Int).natAbs x.natAbs := by
      rw [List.take_add_one, hx, gcdL_append, Int.natAbs_natCast]
      simp [gcdL]
    refine st_seq (st_asg (ev_cb (ea_cons (ev_var rfl (ea_cons (ev_var rfl (ea_nil (cok_gcd ?_))))))))
    rw [← e1]
    walk_at "dd"
    refine ⟨fun hb => ?_, fun hb => ?_⟩
    · refine st_ret (ev_int ⟨u, rfl, ?_⟩)
      have h1 : gcdL (u.take (i + 1)) = 1 := by
        have := of_decide_eq_true hb
        omega
      have h2 : gcdL u ∣ gcdL (u.take (i + 1)) := by
        have := gcdL_append (u.take (i + 1)) (u.drop (i + 1))
        rw [List.take_append_drop] at this
        rw [this]
        exact Nat.gcd_dvd_left _ _
      rw [h1] at h2
      rw [Nat.dvd_one.mp h2]
      rfl
    · refine st_next ⟨_, rfl, rfl⟩
  · rintro L2 Γ2 ⟨s, rfl, rfl⟩
    refine st_ret (ev_var rfl ⟨u, rfl, ?_⟩)
    rw [List.length_map, List.take_length]
theorem ok_content (T : Tx K mg) : FnOk P w K mg base CX0 1 T.a_content T.d_content p_content (sp_content K) := by
  refine T.F_content.ok sc_content (fun vs H Q E h => len_content K vs H Q E h) (fun cdv A outer s H vs Q E hr h => ?_)
  exact ⟨t_content K, (pss_cons (ps_set (i := 1) sc_content.nd rfl (Or.inl rfl) pe_int)
  (pss_cons (ps_for PassesOwn.never rfl (pi_tup (pv 0)) (pg_name (i := 2) sc_content.nd rfl (Or.inl rfl)) (pss_cons (ps_set (i := 1) sc_content.nd rfl (Or.inl rfl) (pe_callBfun cr_gcd (by rfl) T.l_gcd (pa_cons (pv 1) (pa_cons (pv 2) pa_nil))))
  (pss_one (ps_if (pt_cmpR op_eq (pv 1) pe_int (nomark _)) (pss_one (ps_ret pe_int)) pss_nil))))
  (pss_one (ps_ret (pv 1))))), pure_content K vs H Q E h⟩
/-! ### shrunk -/

def pre_shrunk : List PyData → Prop := fun ds => ∃ (u : List Int) (g : Int), ds = [.tuple (u.map .int), .int g] ∧ u.length ≤ 400 ∧ (u = [] ∨ CDivW 0 g)
def post_shrunk : List PyData → PyData → Prop := fun ds d => ∃ (u : List Int) (g : Int), ds = [.tuple (u.map .int), .int g] ∧ d = .tuple ((u.map fun x => x / g).map .int)
abbrev sp_shrunk (K : PySem.W.Frag) : Sp := SpP K pre_shrunk post_shrunk
theorem len_shrunk (K : PySem.W.Frag) (vs : List V) (H : Hp) (Q : VK) (E : XK) (h : sp_shrunk K vs H Q E) : vs.length = p_shrunk.length := len_P (n := 2) h fun ds hp => by
  obtain ⟨u, g, e, hl, hz⟩ := hp
  rw [e]; rfl
def t_shrunk (K : PySem.W.Frag) : TS :=
  (tRet (tCB (rTupleQ K) (tCons (tLc (iTup K (tVar 0)) (gName 2) tYes (tOp rFdA (tVar 2) (tVar 1)) [2]) tNil)))
theorem pure_shrunk (K : PySem.W.Frag) (vs : List V) (H : Hp) (Q : VK) (E : XK) (h : sp_shrunk K vs H Q E) : t_shrunk K { nx := fun _ H' => Q .non H', rt := Q } (L2.start N_shrunk vs) H := body_P h fun B ds hW hp => by
  obtain ⟨u, g, e, hl, hz⟩ := hp
  subst e
  unfold t_shrunk
  refine st_ret (ev_cb (ea_cons (ev_new (en_lcT (wipe1 2) (ev_var rfl ⟨_, rfl, by simp; omega, fun i acc => acc = ((u.take i).map fun x => PyData.int (x / g)), ⟨rfl, fun i D d' acc hi hJ hin => ?_⟩, fun acc hJ => ?_⟩)))))
  · obtain ⟨x, hx, rfl⟩ : ∃ x, u[i]? = some x ∧ d' = .int x := map_get hi
    have hz : CDivW 0 g := by
      rcases hz with q | q
      · rw [q] at hx
        cases hx
      · exact q
    refine et_yes ⟨fun _ => ?_, fun z => nomatch z⟩
    refine ev_op (ev_var rfl (ev_var rfl (ro_fdW hz ?_)))
    subst hJ
    rw [List.take_add_one, hx, List.map_append]
    rfl
  · refine ea_nil (co_tupL ⟨u, g, rfl, ?_⟩)
    rw [hJ, List.length_map, List.take_length, List.map_map]
    rfl
theorem ok_shrunk (T : Tx K mg) : FnOk P w K mg base CX0 1 T.a_shrunk T.d_shrunk p_shrunk (sp_shrunk K) := by
  refine T.F_shrunk.ok sc_shrunk (fun vs H Q E h => len_shrunk K vs H Q E h) (fun cdv A outer s H vs Q E hr h => ?_)
  exact ⟨t_shrunk K, (pss_one (ps_ret (pe_callTy call_tuple_of (by rfl) T.n_tuple (by decide +kernel) (pa_cons (pe_lc (own := [("number", 2)]) (by rfl) sc_shrunk.nd (pi_tup (pv 0)) (blkOk_by (own := [("number", 2)]) (N := N_shrunk) (sc := defScope s_shrunk) (by decide +kernel)) (fun _ _ _ _ _ => pg_name (i := 2) sc_shrunk.nd rfl (Or.inl rfl)) (fun _ _ _ _ _ => pts_nil) (fun _ _ _ _ _ => (pe_op op_fdA (pv 2) (pv 1)))) pa_nil)))), pure_shrunk K vs H Q E h⟩
/-! ### run_parts -/
def pre_run_parts : List PyData → Prop := fun ds => ∃ dd ss : List Fr, ds = [lineD dd ss] ∧ LN dd ss
def post_run_parts : List PyData → PyData → Prop := fun ds d => ∃ dd ss : List Fr, ds = [lineD dd ss] ∧ Parts dd ss d
abbrev sp_run_parts (K : PySem.W.Frag) : Sp := SpP K pre_run_parts post_run_parts
theorem len_run_parts (K : PySem.W.Frag) (vs : List V) (H : Hp) (Q : VK) (E : XK) (h : sp_run_parts K vs H Q E) : vs.length = p_run_parts.length := len_P (n := 1) h fun ds hp => by
  obtain ⟨dd, ss, e, h⟩ := hp
  rw [e]; rfl
def t_run_parts (K : PySem.W.Frag) : TS :=
  (tSeq (tAsg (tVar 0) (gTup K 2 (gCons (gName 1) (gCons (gName 2) gNil))))
  (tSeq (tAsg (tOp (rIx K) (tVar 2) (tC (.int 0))) (gTup K 2 (gCons (gName 3) (gCons (gName 4) gNil))))
  (tSeq (tAsg (tTup (tCons (tVar 4) tNil)) (gName 5))
  (tSeq (tAsg (tIf (tTru K (tVar 3)) (tTup (tCons (tVar 3) tNil)) (tTup tNil)) (gName 6))
  (tSeq (tPar 7 8 (tCons (tLst tNil) (tCons (tLst tNil) tNil)))
  (tSeq (tFor (iEnumT K (tCons (tVar 1) tNil)) (gTup K 2 (gCons (gName 9) (gCons (gName 10) gNil))) (tSeq (tDrop (tBM K "list" rAppend (tVar 7) (tCons (tTup (tCons (tVar 5) (tCons (tVar 4) tNil))) tNil)))
  (tSeq (tAsg (tOp (rIx K) (tVar 2) (tOp (rAddA K) (tVar 9) (tC (.int 1)))) (gName 11))
  (tSeq (tAsg (tCall (sp_blend K) [] E0 (tCons (tVar 6) (tCons (tOp (rIx K) (tVar 10) (tC (.int 1))) (tCons (tCall (sp_raised K) [] E0 (tCons (tVar 5) tNil)) (tCons (tUn (rU fun i => .int (-i)) (tOp (rIx K) (tVar 10) (tC (.int 0)))) tNil))))) (gName 6))
  (tSeq (tDrop (tBM K "list" rAppend (tVar 8) (tCons (tVar 6) tNil)))
  (tSeq (tAsg (tCall (sp_blend K) [] E0 (tCons (tVar 5) (tCons (tOp (rMulA K) (tOp (rIx K) (tVar 10) (tC (.int 1))) (tOp (rIx K) (tVar 11) (tC (.int 0)))) (tCons (tVar 6) (tCons (tOp (rIx K) (tVar 11) (tC (.int 1))) tNil))))) (gName 5))
  (tSeq (tAsg (tCall (sp_blend K) [] E0 (tCons (tVar 6) (tCons (tOp (rIx K) (tVar 11) (tC (.int 0))) (tCons (tTup tNil) (tCons (tC (.int 0)) tNil))))) (gName 6))
  (tAug 4 (tOp (rMulA K) (tOp (rIx K) (tVar 10) (tC (.int 1))) (tOp (rIx K) (tVar 11) (tC (.int 0)))) ipM))))))))
  (tRet (tTup (tCons (tVar 7) (tCons (tVar 8) (tCons (tVar 5) tNil)))))))))))
theorem pure_run_parts (K : PySem.W.Frag) (vs : List V) (H : Hp) (Q : VK) (E : XK) (h : sp_run_parts K vs H Q E) : t_run_parts K { nx := fun _ H' => Q .non H', rt := Q } (L2.start N_run_parts vs) H := body_P h fun B ds hW hp => by
  obtain ⟨dd, ss, e, h⟩ := hp
  subst e
  unfold t_run_parts
  obtain ⟨C0, hC0, _, hC, hCn, _⟩ := h.s_get (i := 0) (by rw [h.len]; omega)
  have n1 := h.c1
  have n8 := h.c8
  refine st_seq (st_unpack (ev_var rfl ⟨_, rfl, rfl, tg_cons (tg_cons (tg_nil ?_))⟩))
  refine st_seq (st_unpack (ev_op (ev_var rfl (ev_int (rok_ixsT (d := frD C0) ?_ ⟨_, rfl, rfl, tg_cons (tg_cons (tg_nil ?_))⟩)))))
  · rw [show (0 : Int) = ((0 : Nat) : Int) by rfl, atI_n, List.getElem?_map, hC0]
    rfl
  refine st_seq (st_asg (ev_tup (ea_cons (ev_var rfl (ea_nil ⟨by simp, ?_⟩)))))
  have main : ∀ tq0 : List Int, tq0 = (if C0.1 = 0 then [] else [C0.1]) → StP K B [] [] [.d (lineD dd ss), .d (.tuple (dd.map frD)), .d (.tuple (ss.map frD)), .d (.int C0.1), .d (.int C0.2), .d (.tuple [.int C0.2]), .d (.tuple (tq0.map .int)), .un, .un, .un, .un, .un]
      (tSeq (tPar 7 8 (tCons (tLst tNil) (tCons (tLst tNil) tNil)))
  (tSeq (tFor (iEnumT K (tCons (tVar 1) tNil)) (gTup K 2 (gCons (gName 9) (gCons (gName 10) gNil))) (tSeq (tDrop (tBM K "list" rAppend (tVar 7) (tCons (tTup (tCons (tVar 5) (tCons (tVar 4) tNil))) tNil)))
  (tSeq (tAsg (tOp (rIx K) (tVar 2) (tOp (rAddA K) (tVar 9) (tC (.int 1)))) (gName 11))
  (tSeq (tAsg (tCall (sp_blend K) [] E0 (tCons (tVar 6) (tCons (tOp (rIx K) (tVar 10) (tC (.int 1))) (tCons (tCall (sp_raised K) [] E0 (tCons (tVar 5) tNil)) (tCons (tUn (rU fun i => .int (-i)) (tOp (rIx K) (tVar 10) (tC (.int 0)))) tNil))))) (gName 6))
  (tSeq (tDrop (tBM K "list" rAppend (tVar 8) (tCons (tVar 6) tNil)))
  (tSeq (tAsg (tCall (sp_blend K) [] E0 (tCons (tVar 5) (tCons (tOp (rMulA K) (tOp (rIx K) (tVar 10) (tC (.int 1))) (tOp (rIx K) (tVar 11) (tC (.int 0)))) (tCons (tVar 6) (tCons (tOp (rIx K) (tVar 11) (tC (.int 1))) tNil))))) (gName 5))
  (tSeq (tAsg (tCall (sp_blend K) [] E0 (tCons (tVar 6) (tCons (tOp (rIx K) (tVar 11) (tC (.int 0))) (tCons (tTup tNil) (tCons (tC (.int 0)) tNil))))) (gName 6))
  (tAug 4 (tOp (rMulA K) (tOp (rIx K) (tVar 10) (tC (.int 1))) (tOp (rIx K) (tVar 11) (tC (.int 0)))) ipM))))))))
  (tRet (tTup (tCons (tVar 7) (tCons (tVar 8) (tCons (tVar 5) tNil))))))) { nx := fun _ _ => post_run_parts [lineD dd ss] .none, rt := post_run_parts [lineD dd ss] } := fun tq0 htq => by
    refine st_seq (st_parOO (en_lst (ea_nil ⟨by simp, fun l1 => en_lst (ea_nil ⟨by simp, fun l2 hne => ?_⟩)⟩)))
    refine st_seq (st_forE (ea_cons (ev_var rfl (ea_nil ⟨_, rfl, fun i L2 Γ2 => ∃ (S : Int) (turn torque : List Int) (as : List (List Int × Int)) (ts : List (List Int)) (s1 s2 s3 : Sl), L2 = [l2, l1] ∧
        Γ2 = [.d (lineD dd ss), .d (.tuple (dd.map frD)), .d (.tuple (ss.map frD)), .d (.int C0.1), .d (.int S), .d (.tuple (turn.map .int)), .d (.tuple (torque.map .int)), .own l1 (as.map angD), .own l2 (ts.map rowD), s1, s2, s3] ∧
        PInv dd ss i S turn torque as ts, ⟨C0.2, [C0.2], tq0, [], [], _, _, _, rfl, rfl, ?_⟩, ?_, ?_⟩))))
    · subst htq
      exact pinv0 h hC0
    · rintro i d' L2 Γ2 g hi ⟨S, turn, torque, as, ts, s1, s2, s3, rfl, rfl, I⟩
      rw [List.getElem?_map] at hi
      obtain ⟨J, hJ, rfl⟩ : ∃ J, dd[i]? = some J ∧ d' = frD J := by
        cases e : dd[i]? with
        | none => rw [e] at hi; cases hi
        | some J =>
          rw [e] at hi
          exact ⟨J, rfl, (Option.some.inj hi).symm⟩
      have hi : i < dd.length := (List.getElem?_eq_some_iff.mp hJ).1
      obtain ⟨st, la, lt, pa, pt⟩ := I.1 hi
      obtain ⟨J', hJ', _, ja, jb, jc, jd⟩ := h.d_get hi
      obtain rfl : J = J' := Option.some.inj (hJ.symm.trans hJ')
      obtain ⟨C, hC', _, ca, cb, cc, cd, cq⟩ := h.s_get (i := i + 1) (by rw [h.len]; omega)
      have big : 64 + 130 * i + 400 ≤ 4000 := by omega
      have q1 : J.1.natAbs < 2 ^ 64 := by omega
      have q2 : J.2.natAbs < 2 ^ 64 := by have := ja.1; omega
      have q3 : C.1.natAbs < 2 ^ 64 := by omega
      have q4 : C.2.natAbs < 2 ^ 64 := by have := ca.1; omega
      refine st_seq (st_append rfl (by simp; omega) (ev_tup (ea_cons (ev_var rfl (ea_cons (ev_var rfl (ea_nil ⟨by simp, ?_⟩)))))))
      refine st_seq (st_asg ?_)
      walk_at "dd"
      refine rok_ixsT (d := frD C) ?_ ?_
      · rw [show (i : Int) + 1 = ((i + 1 : Nat) : Int) by omega, atI_n, List.getElem?_map, hC']
        rfl
      refine st_seq (st_asg (ev_callP ?_))
      walk_at "dd"
      refine ev_callP ?_
      walk_at "dd"
      refine ⟨⟨turn, rfl, ?_⟩, fun d ⟨u, eu, ed⟩ => ?_⟩
      · have := st.tl
        omega
      cases map_int_inj (by injection eu with eu; injection eu)
      rw [rsd_ne (by
        intro z
        have := st.tl
        rw [z] at this
        simp at this)] at ed
      subst ed
      obtain ⟨to', e1, r1, l1', b1⟩ := step1 h hi st hJ
      walk_at "dd"
      refine ⟨⟨torque, _, _, _, rfl, ?_, ?_, ?_, ?_, ?_, ?_⟩, fun d ⟨u, v, a, b, eu, ed⟩ => ?_⟩
      · have := st.ol
        omega
      · have := st.tl
        simp
        omega
      · exact pow_up q2 (by omega)
      · exact pow_up (show (-J.1).natAbs < 2 ^ 64 by omega) (by omega)
      · exact fun x hx => pow_up (st.bo x hx) (by omega)
      · intro x hx
        rcases List.mem_cons.mp hx with rfl | hx
        · exact Nat.pow_pos (by decide)
        · exact pow_up (st.bt x hx) (by omega)
      obtain ⟨rfl, rfl, rfl, rfl⟩ := blend_inj eu
      rw [e1] at ed
      subst ed
      refine st_seq (st_append rfl (by simp; omega) (ev_var rfl ?_))
      refine st_seq (st_asg (ev_callP ?_))
      walk_at "dd"
      refine ro_mulW (mulW_of q2 q3 (by decide)) ?_
      walk_at "dd"
      refine ⟨⟨turn, to', _, _, rfl, ?_, ?_, ?_, ?_, ?_, ?_⟩, fun d ⟨u, v, a, b, eu, ed⟩ => ?_⟩
      · have := st.tl
        omega
      · omega
      · exact pow_up (natAbs_mul_lt q2 q3) (by omega)
      · exact pow_up q4 (by omega)
      · exact fun x hx => pow_up (st.bt x hx) (by omega)
      · exact fun x hx => pow_up (b1 x hx) (by omega)
      obtain ⟨rfl, rfl, rfl, rfl⟩ := blend_inj eu
      subst ed
      refine st_seq (st_asg (ev_callP ?_))
      walk_at "dd"
      refine ⟨⟨to', [], _, _, rfl, ?_, ?_, ?_, ?_, ?_, ?_⟩, fun d ⟨u, v, a, b, eu, ed⟩ => ?_⟩
      · omega
      · simp
      · exact pow_up q3 (by omega)
      · exact Nat.pow_pos (by decide)
      · exact fun x hx => pow_up (b1 x hx) (by omega)
      · intro x hx
        simp at hx
      obtain ⟨rfl, rfl, rfl, rfl⟩ := blend_inj (v := []) eu
      subst ed
      refine st_augM rfl ?_
      walk_at "dd"
      refine ro_mulW (mulW_of q2 q3 (by decide)) ⟨_, rfl, ?_, ?_⟩
      · exact mulW_of st.bS (natAbs_mul_lt q2 q3) (by omega)
      · refine ⟨_, _, _, as ++ [(turn, S)], ts ++ [to'], .d (.int (i : Int)), .d (frD J), .d (frD C), rfl, ?_, pinvS h I hi hJ hC' r1 l1' b1⟩
        rw [List.map_append, List.map_append]
        rfl
    · rintro L2 Γ2 ⟨S, turn, torque, as, ts, s1, s2, s3, rfl, rfl, I⟩
      rw [List.length_map] at I
      refine st_freeze 8 rfl (by simpa using Ne.symm hne) ?_
      refine st_freeze 7 rfl (by simp) ?_
      walk_at "dd"
      refine ⟨dd, ss, rfl, ?_⟩
      exact pinvE h I
  refine st_seq (st_asg (ev_if (et_tru (ev_var rfl ⟨trivial, fun hb => ?_, fun hb => ?_⟩))))
  · have z : C0.1 ≠ 0 := by simpa [truD] using hb
    refine ev_tup (ea_cons (ev_var rfl (ea_nil ⟨by simp, ?_⟩)))
    exact main [C0.1] (if_neg z).symm
  · have z : C0.1 = 0 := by simpa [truD] using hb
    refine ev_tup (ea_nil ⟨by simp, ?_⟩)
    exact main [] (if_pos z).symm
theorem ok_run_parts (T : Tx K mg) : FnOk P w K mg base CX0 3 T.a_run_parts T.d_run_parts p_run_parts (sp_run_parts K) := by
  refine T.F_run_parts.ok sc_run_parts (fun vs H Q E h => len_run_parts K vs H Q E h) (fun cdv A outer s H vs Q E hr h => ?_)
  exact ⟨t_run_parts K, (pss_cons (ps_asg (pv 0) (pg_tup (by rfl) (pgs_cons (pg_name (i := 1) sc_run_parts.nd rfl (Or.inl rfl)) (pgs_cons (pg_name (i := 2) sc_run_parts.nd rfl (Or.inl rfl)) pgs_nil))))
  (pss_cons (ps_asg (pe_ix ix_seq (pv 2) pe_int (fun _ _ => rfl)) (pg_tup (by rfl) (pgs_cons (pg_name (i := 3) sc_run_parts.nd rfl (Or.inl rfl)) (pgs_cons (pg_name (i := 4) sc_run_parts.nd rfl (Or.inl rfl)) pgs_nil))))
  (pss_cons (ps_set (i := 5) sc_run_parts.nd rfl (Or.inl rfl) (pe_tup (pa_cons (pv 4) pa_nil)))
  (pss_cons (ps_set (i := 6) sc_run_parts.nd rfl (Or.inl rfl) (pe_ifExp (pt_truth (pv 3) (by intro _; rfl)) (pe_tup (pa_cons (pv 3) pa_nil)) (pe_tup pa_nil)))
  (pss_cons (ps_par (by rfl) sc_run_parts.nd rfl rfl (by decide) rfl rfl (pa_cons (pe_lst pa_nil) (pa_cons (pe_lst pa_nil) pa_nil)) (by rfl))
  (pss_cons (ps_for PassesOwn.never rfl (pi_enumT (by rfl) T.n_enumerate (pa_cons (pv 1) pa_nil)) (pg_tup (by rfl) (pgs_cons (pg_name (i := 9) sc_run_parts.nd rfl (Or.inl rfl)) (pgs_cons (pg_name (i := 10) sc_run_parts.nd rfl (Or.inl rfl)) pgs_nil))) (pss_cons (ps_expr (pe_bm PySem.F.plainAttrs_list PySem.F.slot_list_append PySem.F.type_list_append mt_append (pv 7) (pa_cons (pe_tup (pa_cons (pv 5) (pa_cons (pv 4) pa_nil))) pa_nil)))
  (pss_cons (ps_set (i := 11) sc_run_parts.nd rfl (Or.inl rfl) (pe_ix ix_seq (pv 2) (pe_op op_addA (pv 9) pe_int) (fun _ _ => rfl)))
  (pss_cons (ps_set (i := 6) sc_run_parts.nd rfl (Or.inl rfl) (pe_call (ok_blend T) (hr.mono (by decide)) rfl T.g_blend T.F_blend.kp (b_blend T) .nil pass0 (pa_cons (pv 6) (pa_cons (pe_ix ix_seq (pv 10) pe_int (fun _ _ => rfl)) (pa_cons (pe_call (ok_raised T) (hr.mono (by decide)) rfl T.g_raised T.F_raised.kp (b_raised T) .nil pass0 (pa_cons (pv 5) pa_nil)) (pa_cons (pe_un un_neg (pe_ix ix_seq (pv 10) pe_int (fun _ _ => rfl))) pa_nil))))))
  (pss_cons (ps_expr (pe_bm PySem.F.plainAttrs_list PySem.F.slot_list_append PySem.F.type_list_append mt_append (pv 8) (pa_cons (pv 6) pa_nil)))
  (pss_cons (ps_set (i := 5) sc_run_parts.nd rfl (Or.inl rfl) (pe_call (ok_blend T) (hr.mono (by decide)) rfl T.g_blend T.F_blend.kp (b_blend T) .nil pass0 (pa_cons (pv 5) (pa_cons (pe_op op_mulA (pe_ix ix_seq (pv 10) pe_int (fun _ _ => rfl)) (pe_ix ix_seq (pv 11) pe_int (fun _ _ => rfl))) (pa_cons (pv 6) (pa_cons (pe_ix ix_seq (pv 11) pe_int (fun _ _ => rfl)) pa_nil))))))
  (pss_cons (ps_set (i := 6) sc_run_parts.nd rfl (Or.inl rfl) (pe_call (ok_blend T) (hr.mono (by decide)) rfl T.g_blend T.F_blend.kp (b_blend T) .nil pass0 (pa_cons (pv 6) (pa_cons (pe_ix ix_seq (pv 11) pe_int (fun _ _ => rfl)) (pa_cons (pe_tup pa_nil) (pa_cons pe_int pa_nil))))))
  (pss_one (ps_aug (i := 4) sc_run_parts.nd rfl (Or.inl rfl) (pe_op op_mulA (pe_ix ix_seq (pv 10) pe_int (fun _ _ => rfl)) (pe_ix ix_seq (pv 11) pe_int (fun _ _ => rfl))) ip_mul)))))))))
  (pss_one (ps_ret (pe_tup (pa_cons (pv 7) (pa_cons (pv 8) (pa_cons (pv 5) pa_nil)))))))))))), pure_run_parts K vs H Q E h⟩
/-! ### is_row_of_fractions -/

def pre_is_row_of_fractions : List PyData → Prop := fun ds => ∃ v, ∃ n : Int, ds = [v, .int n] ∧ 0 ≤ n ∧ n ≤ 1000
def post_is_row_of_fractions : List PyData → PyData → Prop := fun ds d => ∃ v, ∃ n : Int, ds = [v, .int n] ∧ d = .bool (isRowD v n)
abbrev sp_is_row_of_fractions (K : PySem.W.Frag) : Sp := SpP K pre_is_row_of_fractions post_is_row_of_fractions
theorem len_is_row_of_fractions (K : PySem.W.Frag) (vs : List V) (H : Hp) (Q : VK) (E : XK) (h : sp_is_row_of_fractions K vs H Q E) : vs.length = p_is_row_of_fractions.length := len_P (n := 2) h fun ds hp => by
  obtain ⟨v, n, e, hn0, hn1⟩ := hp
  rw [e]; rfl
def t_is_row_of_fractions (K : PySem.W.Frag) : TS :=
  (tSeq (tIfS (tOr (tNot (tB (tCB (rIsi K) (tCons (tVar 0) (tCons (tC (.ty "tuple")) tNil))))) (tTest (tOp rNe (tCB (rLenQ K) (tCons (tVar 0) tNil)) (tVar 1)))) (tRet (tC (.bl false))) tNext)
  (tRet (tCB (rAll K) (tCons (tLc (iTup K (tVar 0)) (gName 2) tYes (tCall (sp_is_fraction_from_nought K) [] E0 (tCons (tVar 2) tNil)) [2]) tNil))))
theorem pure_is_row_of_fractions (K : PySem.W.Frag) (vs : List V) (H : Hp) (Q : VK) (E : XK) (h : sp_is_row_of_fractions K vs H Q E) : t_is_row_of_fractions K { nx := fun _ H' => Q .non H', rt := Q } (L2.start N_is_row_of_fractions vs) H := body_P h fun B ds hW hp => by
  obtain ⟨v, n, e, hn0, hn1⟩ := hp
  subst e
  unfold t_is_row_of_fractions
  refine st_seq (st_if (et_or (et_not (et_B (ev_isiTup (ev_var rfl ⟨_, rfl, fun hb => ?_, fun hb => ⟨fun _ => ?_, fun z => nomatch z⟩⟩))))))
  · obtain ⟨xs, rfl⟩ := isTupT_true (d := v) (by simpa using hb)
    refine et_test (ev_op (ev_cb (ea_cons (ev_var rfl (ea_nil (co_lenT (ev_var rfl (rok_neI ⟨_, rfl, fun hb => ?_, fun hb => ?_⟩))))))))
    · refine st_ret (ev_bl ⟨_, _, rfl, ?_⟩)
      have h2 : ¬ (xs.length : Int) = n := by
        simp at hb
        exact hb
      show _ = PyData.bool (decide ((xs.length : Int) = n) && xs.all isRowItem)
      rw [decide_eq_false h2]
      rfl
    · have hl : (xs.length : Int) = n := by
        simp at hb
        exact hb
      refine st_next (st_ret (ev_cb (ea_cons (ev_new (en_lcT (wipe1 2) (ev_var rfl ⟨xs, rfl, by omega, fun i acc => acc = ((xs.take i).map fun d => PyData.bool (isRowItem d)), ⟨rfl, fun i D d' acc hi hJ hin => ?_⟩, fun acc hJ => ?_⟩))) )))
      · refine et_yes ⟨fun _ => ?_, fun z => nomatch z⟩
        subst hJ
        refine ev_callP (ea_cons (ev_var rfl (ea_nil ⟨⟨_, rfl⟩, fun d ⟨v, ev, ed⟩ => ?_⟩)))
        cases ev
        subst ed
        show ((xs.take i).map fun d => PyData.bool (isRowItem d)) ++ [PyData.bool (isRowItem d')] = (xs.take (i + 1)).map fun d => PyData.bool (isRowItem d)
        rw [List.take_add_one, hi, List.map_append]
        rfl
      · refine ea_nil ?_
        subst hJ
        rw [List.take_length, show (xs.map fun d => PyData.bool (isRowItem d)) = (xs.map isRowItem).map PyData.bool by rw [List.map_map]; rfl]
        refine cok_all ⟨_, _, rfl, ?_⟩
        show _ = PyData.bool (decide ((xs.length : Int) = n) && xs.all isRowItem)
        rw [decide_eq_true hl, Bool.true_and, List.all_map]
        rfl
  · refine st_ret (ev_bl ⟨_, _, rfl, ?_⟩)
    cases v <;> first | rfl | cases hb
theorem ok_is_row_of_fractions (T : Tx K mg) : FnOk P w K mg base CX0 4 T.a_is_row_of_fractions T.d_is_row_of_fractions p_is_row_of_fractions (sp_is_row_of_fractions K) := by
  refine T.F_is_row_of_fractions.ok sc_is_row_of_fractions (fun vs H Q E h => len_is_row_of_fractions K vs H Q E h) (fun cdv A outer s H vs Q E hr h => ?_)
  exact ⟨t_is_row_of_fractions K, (pss_cons (ps_if (PW.pt (pw_or (pt_not (pt_val (pe_callB call_isi (by rfl) T.n_isinstance (by decide +kernel) (pa_cons (pv 0) (pa_cons (pe_bltn (v := .ty "tuple") (by rfl) T.n_tuple (by decide +kernel) rfl) pa_nil))))) (pw_or1 (pt_cmpR op_ne (pe_callB call_len_seq (by rfl) T.n_len (by decide +kernel) (pa_cons (pv 0) pa_nil)) (pv 1) (nomark _))))) (pss_one (ps_ret pe_bl)) pss_nil)
  (pss_one (ps_ret (pe_callB (cr_all rfl) (by rfl) T.n_all (by decide +kernel) (pa_cons (pe_lc (own := [("number", 2)]) (by rfl) sc_is_row_of_fractions.nd (pi_tup (pv 0)) (blkOk_by (own := [("number", 2)]) (N := N_is_row_of_fractions) (sc := defScope s_is_row_of_fractions) (by decide +kernel)) (fun _ _ _ _ _ => pg_name (i := 2) sc_is_row_of_fractions.nd rfl (Or.inl rfl)) (fun _ _ _ _ _ => pts_nil) (fun _ _ _ _ _ => (pe_call (ok_is_fraction_from_nought T) (hr.mono (by decide)) rfl T.g_is_fraction_from_nought T.F_is_fraction_from_nought.kp (b_is_fraction_from_nought T) .nil pass0 (pa_cons (pv 2) pa_nil)))) pa_nil))))), pure_is_row_of_fractions K vs H Q E h⟩
/-! ### is_line -/
def isLine2 : PyData → PyData → Bool
  | .tuple ds, s => decide (1 ≤ ds.length ∧ ds.length ≤ 8) && (isRowD (.tuple ds) ds.length && (isRowD s ((ds.length : Int) + 1) && (match s with
    | .tuple ss => (ds ++ DL.cutD ss (some 1) (some (-1))).all fun d => decide (0 < numD d)
    | _ => false)))
  | _, _ => false
def isLineL : List PyData → Bool
  | [d, s] => isLine2 d s
  | _ => false
def isLineD : PyData → Bool
  | .tuple xs => isLineL xs
  | _ => false
theorem isLine_len {xs : List PyData} (h : xs.length ≠ 2) : isLineD (.tuple xs) = false := by
  match xs with
  | [] => rfl
  | [a] => rfl
  | [a, b] => exact absurd rfl h
  | a :: b :: c :: r => rfl
theorem isLine_disc {ds : List PyData} {b : PyData} (h : ¬ (1 ≤ ds.length ∧ ds.length ≤ 8)) : isLineD (.tuple [.tuple ds, b]) = false := by
  show (decide (1 ≤ ds.length ∧ ds.length ≤ 8) && _) = false
  rw [decide_eq_false h, Bool.false_and]
theorem isLine_row1 {ds : List PyData} {b : PyData} (h : isRowD (.tuple ds) ds.length = false) : isLineD (.tuple [.tuple ds, b]) = false := by
  show (_ && (isRowD (.tuple ds) ds.length && _)) = false
  rw [h, Bool.false_and, Bool.and_false]
theorem isLine_row2 {ds : List PyData} {b : PyData} (h : isRowD b ((ds.length : Int) + 1) = false) : isLineD (.tuple [.tuple ds, b]) = false := by
  show (_ && (_ && (isRowD b ((ds.length : Int) + 1) && _))) = false
  rw [h, Bool.false_and, Bool.and_false, Bool.and_false]
theorem isLine_in {ds ss : List PyData} (h1 : 1 ≤ ds.length) (h8 : ds.length ≤ 8) (r1 : isRowD (.tuple ds) ds.length = true) (r2 : isRowD (.tuple ss) ((ds.length : Int) + 1) = true) :
    isLineD (.tuple [.tuple ds, .tuple ss]) = (ds ++ DL.cutD ss (some 1) (some (-1))).all fun d => decide (0 < numD d) := by
  show (decide (1 ≤ ds.length ∧ ds.length ≤ 8) && (isRowD (.tuple ds) ds.length && (isRowD (.tuple ss) ((ds.length : Int) + 1) && _))) = _
  rw [decide_eq_true ⟨h1, h8⟩, r1, r2, Bool.true_and, Bool.true_and, Bool.true_and]
theorem isRowD_tup {v : PyData} {n : Int} (h : isRowD v n = true) : ∃ xs, v = .tuple xs ∧ (xs.length : Int) = n := by
  cases v with
  | tuple xs => exact ⟨xs, rfl, of_decide_eq_true (Bool.and_eq_true_iff.mp (show (decide ((xs.length : Int) = n) && xs.all isRowItem) = true from h)).1⟩
  | _ => cases h
theorem isRowD_mem {xs : List PyData} {n : Int} (h : isRowD (.tuple xs) n = true) {d : PyData} (hd : d ∈ xs) : isRowItem d = true :=
  List.all_eq_true.mp (Bool.and_eq_true_iff.mp (show (decide ((xs.length : Int) = n) && xs.all isRowItem) = true from h)).2 d hd
theorem cutD_le (ds : List PyData) (lo hi : Option Int) : (DL.cutD ds lo hi).length ≤ ds.length := by
  unfold DL.cutD
  rw [List.length_take, List.length_drop]
  omega
theorem cutD_mem {ds : List PyData} {lo hi : Option Int} {d : PyData} (h : d ∈ DL.cutD ds lo hi) : d ∈ ds := List.mem_of_mem_drop (List.mem_of_mem_take h)
def pre_is_line : List PyData → Prop := fun ds => ∃ v, ds = [v]
def post_is_line : List PyData → PyData → Prop := fun ds d => ∃ v, ds = [v] ∧ d = .bool (isLineD v)
abbrev sp_is_line (K : PySem.W.Frag) : Sp := SpP K pre_is_line post_is_line
theorem len_is_line (K : PySem.W.Frag) (vs : List V) (H : Hp) (Q : VK) (E : XK) (h : sp_is_line K vs H Q E) : vs.length = p_is_line.length := len_P (n := 1) h fun ds hp => by
  obtain ⟨v, e⟩ := hp
  rw [e]; rfl
def t_is_line (K : PySem.W.Frag) : TS :=
  (tSeq (tIfS (tOr (tNot (tB (tCB (rIsi K) (tCons (tVar 0) (tCons (tC (.ty "tuple")) tNil))))) (tTest (tOp rNe (tCB (rLenQ K) (tCons (tVar 0) tNil)) (tC (.int 2))))) (tRet (tC (.bl false))) tNext)
  (tSeq (tAsg (tVar 0) (gTup K 2 (gCons (gName 1) (gCons (gName 2) gNil))))
  (tSeq (tIfS (tOr (tNot (tB (tCB (rIsi K) (tCons (tVar 1) (tCons (tC (.ty "tuple")) tNil))))) (tNot (tTest (tChain (rI0 fun i j => .bl (decide (i ≤ j))) (rI0 fun i j => .bl (decide (i ≤ j))) (tC (.int 1)) (tCB (rLenQ K) (tCons (tVar 1) tNil)) (tC (.int 8)))))) (tRet (tC (.bl false))) tNext)
  (tSeq (tIfS (tOr (tNot (tB (tCall (sp_is_row_of_fractions K) [] E0 (tCons (tVar 1) (tCons (tCB (rLenQ K) (tCons (tVar 1) tNil)) tNil))))) (tNot (tB (tCall (sp_is_row_of_fractions K) [] E0 (tCons (tVar 2) (tCons (tOp (rAddA K) (tCB (rLenQ K) (tCons (tVar 1) tNil)) (tC (.int 1))) tNil)))))) (tRet (tC (.bl false))) tNext)
  (tRet (tCB (rAll K) (tCons (tLc (iTup K (tOp (rAddA K) (tVar 1) (tSl (rSlX2 K) (tVar 2) (tPart (tC (.int 1))) (tPart (tUn (rU fun i => .int (-i)) (tC (.int 1))))))) (gName 3) tYes (tOp (rI0 fun i j => .bl (decide (j < i))) (tOp (rIx K) (tVar 3) (tC (.int 0))) (tC (.int 0))) [3]) tNil)))))))
theorem pure_is_line (K : PySem.W.Frag) (vs : List V) (H : Hp) (Q : VK) (E : XK) (h : sp_is_line K vs H Q E) : t_is_line K { nx := fun _ H' => Q .non H', rt := Q } (L2.start N_is_line vs) H := body_P h fun B ds hW hp => by
  obtain ⟨v, e⟩ := hp
  subst e
  unfold t_is_line
  walk_at "dd"
  refine ⟨fun hb => ?_, fun hb => ⟨fun _ => ?_, fun z => nomatch z⟩⟩
  · obtain ⟨xs, rfl⟩ := isTupT_true (d := v) (by simpa using hb)
    walk_at "dd"
    refine ⟨fun hb => ?_, fun hb => ?_⟩
    · refine st_ret (ev_bl ⟨_, rfl, ?_⟩)
      have hl : xs.length ≠ 2 := by
        simp at hb
        omega
      rw [isLine_len hl]
    · have hl : xs.length = 2 := by
        simp at hb
        omega
      obtain ⟨a, b, rfl⟩ : ∃ a b, xs = [a, b] := by
        match xs, hl with
        | [a, b], _ => exact ⟨a, b, rfl⟩
      refine st_next (st_seq (st_unpack (ev_var rfl ⟨_, rfl, rfl, tg_cons (tg_cons (tg_nil ?_))⟩)))
      walk_at "dd"
      refine ⟨fun hb => ?_, fun hb => ⟨fun _ => ?_, fun z => nomatch z⟩⟩
      · obtain ⟨ds, rfl⟩ := isTupT_true (d := a) (by simpa using hb)
        walk_at "dd"
        refine ⟨fun hb => ?_, fun hb => ?_⟩
        · walk_at "dd"
          refine ⟨fun hb2 => ?_, fun hb2 => ?_⟩
          · refine st_ret (ev_bl ⟨_, rfl, ?_⟩)
            have h8 : ¬ ds.length ≤ 8 := by
              simp at hb2
              omega
            rw [isLine_disc (fun z => h8 z.2)]
          · have h1 : 1 ≤ ds.length := by
              have := of_decide_eq_true hb
              omega
            have h8 : ds.length ≤ 8 := by
              simp at hb2
              omega
            walk_at "dd"
            refine ev_callP ?_
            walk_at "dd"
            refine ⟨⟨_, _, rfl, by omega, by omega⟩, fun d ⟨v, n, ev, ed⟩ => ?_⟩
            cases ev
            refine ⟨_, ed, fun hb3 => ?_, fun hb3 => ⟨fun _ => ?_, fun z => nomatch z⟩⟩
            · have r1 : isRowD (.tuple ds) ds.length = true := by simpa using hb3
              refine et_not (et_B (ev_callP ?_))
              walk_at "dd"
              refine ⟨⟨_, _, rfl, by omega, by omega⟩, fun d ⟨v, n, ev, ed⟩ => ?_⟩
              cases ev
              refine ⟨_, ed, fun hb4 => ?_, fun hb4 => ?_⟩
              · refine st_ret (ev_bl ⟨_, rfl, ?_⟩)
                rw [isLine_row2 (by simpa using hb4)]
              · have r2 : isRowD b ((ds.length : Int) + 1) = true := by simpa using hb4
                obtain ⟨ss, rfl, hs⟩ := isRowD_tup r2
                refine st_next (st_ret (ev_cb (ea_cons (ev_new (en_lcT (wipe1 3) ?_)))))
                have hcl := cutD_le ss (some 1) (some (-1))
                have hz : (ds ++ DL.cutD ss (some 1) (some (-1))).length ≤ 100000 := by
                  rw [List.length_append]
                  omega
                have hit : ∀ d' ∈ ds ++ DL.cutD ss (some 1) (some (-1)), isRowItem d' = true := fun d' hd => by
                  rcases List.mem_append.mp hd with hd | hd
                  · exact isRowD_mem r1 hd
                  · exact isRowD_mem r2 (cutD_mem hd)
                walk_at "dd"
                refine ro_catT (by omega) ?_
                have hfin := isLine_in h1 h8 r1 r2
                revert hfin hz hit
                generalize ds ++ DL.cutD ss (some 1) (some (-1)) = xs
                intro hz hit hfin
                refine ⟨xs, rfl, hz, fun i acc => acc = ((xs.take i).map fun d => PyData.bool (decide (0 < numD d))), ⟨rfl, fun i D d' acc hi hJ hin => ?_⟩, fun acc hJ => ?_⟩
                · refine et_yes ⟨fun _ => ?_, fun z => nomatch z⟩
                  subst hJ
                  have hd' := hit d' (List.mem_of_getElem? hi)
                  have hf : isFracD d' = true := (Bool.and_eq_true_iff.mp hd').1
                  obtain ⟨p, q, rfl, hq, hg⟩ := isFracD_true hf
                  refine ev_op (ev_op (ev_var rfl (ev_int (rok_ixsT (d := .int p) rfl (ev_int (rok_b0 ?_))))))
                  show _ = List.map (fun d => PyData.bool (decide (0 < numD d))) (List.take (i + 1) xs)
                  rw [List.take_add_one, hi, List.map_append]
                  rfl
                · refine ea_nil ?_
                  subst hJ
                  rw [List.take_length, show (xs.map fun d => PyData.bool (decide (0 < numD d))) = (xs.map fun d => decide (0 < numD d)).map PyData.bool by rw [List.map_map]; rfl]
                  refine cok_all ⟨_, rfl, ?_⟩
                  rw [hfin, List.all_map]
                  rfl
            · refine st_ret (ev_bl ⟨_, rfl, ?_⟩)
              rw [isLine_row1 (by simpa using hb3)]
        · walk_at "dd"
          refine ⟨fun _ => ?_, fun z => nomatch z⟩
          refine st_ret (ev_bl ⟨_, rfl, ?_⟩)
          have h8 : ¬ 1 ≤ ds.length := by
            have := of_decide_eq_false hb
            omega
          rw [isLine_disc (fun z => h8 z.1)]
      · refine st_ret (ev_bl ⟨_, rfl, ?_⟩)
        cases a <;> first | rfl | cases hb
  · refine st_ret (ev_bl ⟨_, rfl, ?_⟩)
    cases v <;> first | rfl | cases hb
theorem ok_is_line (T : Tx K mg) : FnOk P w K mg base CX0 5 T.a_is_line T.d_is_line p_is_line (sp_is_line K) := by
  refine T.F_is_line.ok sc_is_line (fun vs H Q E h => len_is_line K vs H Q E h) (fun cdv A outer s H vs Q E hr h => ?_)
  exact ⟨t_is_line K, (pss_cons (ps_if (PW.pt (pw_or (pt_not (pt_val (pe_callB call_isi (by rfl) T.n_isinstance (by decide +kernel) (pa_cons (pv 0) (pa_cons (pe_bltn (v := .ty "tuple") (by rfl) T.n_tuple (by decide +kernel) rfl) pa_nil))))) (pw_or1 (pt_cmpR op_ne (pe_callB call_len_seq (by rfl) T.n_len (by decide +kernel) (pa_cons (pv 0) pa_nil)) pe_int (nomark _))))) (pss_one (ps_ret pe_bl)) pss_nil)
  (pss_cons (ps_asg (pv 0) (pg_tup (by rfl) (pgs_cons (pg_name (i := 1) sc_is_line.nd rfl (Or.inl rfl)) (pgs_cons (pg_name (i := 2) sc_is_line.nd rfl (Or.inl rfl)) pgs_nil))))
  (pss_cons (ps_if (PW.pt (pw_or (pt_not (pt_val (pe_callB call_isi (by rfl) T.n_isinstance (by decide +kernel) (pa_cons (pv 1) (pa_cons (pe_bltn (v := .ty "tuple") (by rfl) T.n_tuple (by decide +kernel) rfl) pa_nil))))) (pw_or1 (pt_not (pt_chain op_le op_le pe_int (pe_callB call_len_seq (by rfl) T.n_len (by decide +kernel) (pa_cons (pv 1) pa_nil)) (pe_glob rfl T.c_MOST_DISCS ⟨_, rfl⟩)))))) (pss_one (ps_ret pe_bl)) pss_nil)
  (pss_cons (ps_if (PW.pt (pw_or (pt_not (pt_val (pe_call (ok_is_row_of_fractions T) (hr.mono (by decide)) rfl T.g_is_row_of_fractions T.F_is_row_of_fractions.kp (b_is_row_of_fractions T) .nil pass0 (pa_cons (pv 1) (pa_cons (pe_callB call_len_seq (by rfl) T.n_len (by decide +kernel) (pa_cons (pv 1) pa_nil)) pa_nil))))) (pw_or1 (pt_not (pt_val (pe_call (ok_is_row_of_fractions T) (hr.mono (by decide)) rfl T.g_is_row_of_fractions T.F_is_row_of_fractions.kp (b_is_row_of_fractions T) .nil pass0 (pa_cons (pv 2) (pa_cons (pe_op op_addA (pe_callB call_len_seq (by rfl) T.n_len (by decide +kernel) (pa_cons (pv 1) pa_nil)) pe_int) pa_nil)))))))) (pss_one (ps_ret pe_bl)) pss_nil)
  (pss_one (ps_ret (pe_callB (cr_all rfl) (by rfl) T.n_all (by decide +kernel) (pa_cons (pe_lc (own := [("number", 3)]) (by rfl) sc_is_line.nd (pi_tup (pe_op op_addA (pv 1) (pe_slice sl_any (pv 2) (po_some pe_int) (po_some (pe_un un_neg pe_int))))) (blkOk_by (own := [("number", 3)]) (N := N_is_line) (sc := defScope s_is_line) (by decide +kernel)) (fun _ _ _ _ _ => pg_name (i := 3) sc_is_line.nd rfl (Or.inl rfl)) (fun _ _ _ _ _ => pts_nil) (fun _ _ _ _ _ => (pe_cmpR op_gt (pe_ix ix_seq (pv 3) pe_int (fun _ _ => rfl)) pe_int (nomark _)))) pa_nil)))))))), pure_is_line K vs H Q E h⟩
/-! ### thinned_all -/
structure Rws (us : List (List Int)) : Prop where
  l : us.length ≤ 10
  s : ∀ u ∈ us, u.length ≤ 100 ∧ bd u 4000
  z : (∀ u ∈ us, u = []) ∨ ∃ u ∈ us, ∃ x ∈ u, x ≠ 0
theorem rows_get {us : List (List Int)} {i : Nat} {d : PyData} (h : (us.map rowD)[i]? = some d) : ∃ u, us[i]? = some u ∧ d = rowD u := by
  rw [List.getElem?_map] at h
  cases e : us[i]? with
  | none => rw [e] at h; cases h
  | some u => rw [e] at h; exact ⟨u, rfl, (Option.some.inj h).symm⟩
theorem Rws.div {us : List (List Int)} (h : Rws us) {u : List Int} (hu : u ∈ us) : u = [] ∨ L2.CDivW 0 ((gcdA us : Nat) : Int) := by
  rcases h.z with q | ⟨v, hv, x, hx, x0⟩
  · exact .inl (q u hu)
  · refine .inr ?_
    have mem : x ∈ us.flatten := List.mem_flatten.mpr ⟨v, hv, hx⟩
    have gp := gcdL_pos ⟨x, mem, x0⟩
    refine cdw (e := 4000) (by unfold gcdA; omega) ?_ (by decide)
    rw [Int.natAbs_natCast]
    have h1 := Int.natAbs_dvd_natAbs.mpr (gcdL_dvd mem)
    rw [Int.natAbs_natCast] at h1
    exact Nat.lt_of_le_of_lt (Nat.le_of_dvd (by omega) h1) ((h.s v hv).2 x hx)
structure Ck where
  i : Nat
  t : Nat
  w : Fr
def ckD (c : Ck) : PyData := .tuple [.int (c.i : Int), .int (c.t : Int), frD c.w]
def engD (dd ss : List Fr) (cs : List Ck) : PyData := .tuple [lineD dd ss, .tuple (cs.map ckD)]
theorem ckD_inj {a b : Ck} (h : ckD a = ckD b) : a = b := by
  unfold ckD at h
  simp only [PyData.tuple.injEq, List.cons.injEq, and_true, PyData.int.injEq] at h
  obtain ⟨h1, h2, h3⟩ := h
  cases a
  cases b
  simp only [Ck.mk.injEq]
  simp only at h1 h2 h3
  exact ⟨by omega, by omega, frD_inj h3⟩
theorem map_ck_inj : ∀ {u v : List Ck}, u.map ckD = v.map ckD → u = v
  | [], [], _ => rfl
  | [], _ :: _, h => by cases h
  | _ :: _, [], h => by cases h
  | a :: u, b :: v, h => by
    simp only [List.map_cons, List.cons.injEq] at h
    rw [ckD_inj h.1, map_ck_inj h.2]
theorem engD_inj {a b c d : List Fr} {u v : List Ck} (h : engD a b u = engD c d v) : a = c ∧ b = d ∧ u = v := by
  unfold engD at h
  simp only [PyData.tuple.injEq, List.cons.injEq, and_true] at h
  obtain ⟨rfl, rfl⟩ := lineD_inj (a := a) (b := b) (c := c) (d := d) (by rw [h.1])
  exact ⟨rfl, rfl, map_ck_inj h.2⟩
structure Eng (dd ss : List Fr) (cs : List Ck) : Prop where
  l4 : Ln4 dd ss
  d4 : dd.length ≤ 4
  c1 : 1 ≤ cs.length
  c6 : cs.length ≤ 6
  di : ∀ c ∈ cs, c.i < dd.length
  tw : ∀ c ∈ cs, c.t < 12
  ok : ∀ c ∈ cs, FOk c.w
  nz : ∀ c ∈ cs, c.w.1 ≠ 0
  sz : ∀ c ∈ cs, c.w.1.natAbs < 2 ^ 4 ∧ c.w.2.natAbs < 2 ^ 4
theorem Eng.ln {dd ss : List Fr} {cs : List Ck} (h : Eng dd ss cs) : LN dd ss := h.l4.ln
theorem Eng.c8 {dd ss : List Fr} {cs : List Ck} (h : Eng dd ss cs) : cs.length ≤ 8 := Nat.le_trans h.c6 (by decide)
def c0 : Ck := ⟨0, 0, (0, 1)⟩
theorem frD_item {x : Fr} (h : FOk x) (h0 : 0 ≤ x.1) : isRowItem (frD x) = true := by
  show (decide (0 < x.2) && decide (((Nat.gcd x.1.natAbs x.2.natAbs : Nat) : Int) = 1) && decide (0 ≤ x.1)) = true
  rw [decide_eq_true h.1, decide_eq_true h0, decide_eq_true (by rw [h.2]; rfl)]
  rfl
theorem lineD_is {dd ss : List Fr} (h : LN dd ss) : isLineD (lineD dd ss) = true := by
  have n1 := h.c1
  have n8 := h.c8
  show (decide (1 ≤ (dd.map frD).length ∧ (dd.map frD).length ≤ 8) && (isRowD (.tuple (dd.map frD)) (dd.map frD).length && (isRowD (.tuple (ss.map frD)) (((dd.map frD).length : Int) + 1) && ((dd.map frD ++ DL.cutD (ss.map frD) (some 1) (some (-1))).all fun d => decide (0 < numD d))))) = true
  have hr1 : isRowD (.tuple (dd.map frD)) (dd.map frD).length = true := by
    show (decide (((dd.map frD).length : Int) = ((dd.map frD).length : Int)) && (dd.map frD).all isRowItem) = true
    rw [decide_eq_true rfl, Bool.true_and, List.all_eq_true]
    intro d hd
    obtain ⟨x, hx, rfl⟩ := List.mem_map.mp hd
    obtain ⟨a, b, _⟩ := h.dok x hx
    exact frD_item a (by omega)
  have hr2 : isRowD (.tuple (ss.map frD)) (((dd.map frD).length : Int) + 1) = true := by
    show (decide (((ss.map frD).length : Int) = ((dd.map frD).length : Int) + 1) && (ss.map frD).all isRowItem) = true
    rw [decide_eq_true (by rw [List.length_map, List.length_map, h.len]; omega), Bool.true_and, List.all_eq_true]
    intro d hd
    obtain ⟨x, hx, rfl⟩ := List.mem_map.mp hd
    obtain ⟨a, b, _⟩ := h.sok x hx
    exact frD_item a b
  have hc : decide (1 ≤ (dd.map frD).length ∧ (dd.map frD).length ≤ 8) = true := decide_eq_true (by rw [List.length_map]; omega)
  rw [hr1, hr2, hc, Bool.true_and, Bool.true_and, Bool.true_and, List.all_eq_true]
  intro d hd
  apply decide_eq_true
  rcases List.mem_append.mp hd with hd | hd
  · obtain ⟨x, hx, rfl⟩ := List.mem_map.mp hd
    exact (h.dok x hx).2.1
  · obtain ⟨i, hi, e⟩ := List.getElem_of_mem hd
    have e2 : (DL.cutD (ss.map frD) (some 1) (some (-1)))[i]? = some d := by rw [List.getElem?_eq_getElem hi, e]
    unfold DL.cutD at e2
    rw [List.getElem?_take] at e2
    have s1 : HT.sIx (ss.map frD).length 0 (some 1) = 1 := by
      rw [show (1 : Int) = ((1 : Nat) : Int) by rfl, HT.sIx_nat, List.length_map, h.len]
      omega
    have s2 : HT.sIx (ss.map frD).length (ss.map frD).length (some (-1)) = dd.length := by
      show (if (-1 : Int) < 0 then (-1 + ((ss.map frD).length : Int)).toNat else min (-1 : Int).toNat (ss.map frD).length) = dd.length
      rw [if_pos (by decide), List.length_map, h.len]
      omega
    rw [s1, s2] at e2
    by_cases q : i < dd.length - 1
    · rw [if_pos q, List.getElem?_drop, List.getElem?_map] at e2
      cases e3 : ss[1 + i]? with
      | none => rw [e3] at e2; cases e2
      | some x =>
        rw [e3] at e2
        cases e2
        exact h.inn (1 + i) x (by omega) (by omega) e3
    · rw [if_neg q] at e2
      cases e2

def pre_thinned_all : List PyData → Prop := fun ds => ∃ (b : Bool) (us : List (List Int)), ds = [rowB b (us.map rowD)] ∧ Rws us
def post_thinned_all : List PyData → PyData → Prop := fun ds d => ∃ (b : Bool) (us : List (List Int)), ds = [rowB b (us.map rowD)] ∧ d = .tuple ((thinA us).map rowD)
abbrev sp_thinned_all (K : PySem.W.Frag) : Sp := SpP K pre_thinned_all post_thinned_all
theorem len_thinned_all (K : PySem.W.Frag) (vs : List V) (H : Hp) (Q : VK) (E : XK) (h : sp_thinned_all K vs H Q E) : vs.length = p_thinned_all.length := len_P (n := 1) h fun ds hp => by
  obtain ⟨b, us, e, h⟩ := hp
  rw [e]; rfl
def t_thinned_all (K : PySem.W.Frag) : TS :=
  (tSeq (tAsg (tC (.int 0)) (gName 1))
  (tSeq (tFor (iSeq K (tVar 0)) (gName 2) (tAsg (tCall (sp_content K) [] E0 (tCons (tOp (rAddA K) (tTup (tCons (tVar 1) tNil)) (tVar 2)) tNil)) (gName 1)))
  (tRet (tCB (rTupleQ K) (tCons (tLc (iSeq K (tVar 0)) (gName 2) tYes (tCall (sp_shrunk K) [] E0 (tCons (tVar 2) (tCons (tVar 1) tNil))) [2]) tNil)))))
theorem pure_thinned_all (K : PySem.W.Frag) (vs : List V) (H : Hp) (Q : VK) (E : XK) (h : sp_thinned_all K vs H Q E) : t_thinned_all K { nx := fun _ H' => Q .non H', rt := Q } (L2.start N_thinned_all vs) H := body_P h fun B ds hW hp => by
  obtain ⟨b, us, e, h⟩ := hp
  subst e
  unfold t_thinned_all
  have l := h.l
  refine st_seq (st_asg (ev_int ?_))
  refine st_seq (st_forS b (ev_var rfl ⟨_, rfl, fun i L2 Γ2 => ∃ s2 : Sl, L2 = [] ∧ Γ2 = [.d (rowB b (us.map rowD)), .d (.int ((gcdL (us.take i).flatten : Nat) : Int)), s2], ⟨_, rfl, rfl⟩, ?_, ?_⟩))
  · rintro i d' L2 Γ2 g hi ⟨s2, rfl, rfl⟩
    obtain ⟨u, hu, rfl⟩ := rows_get hi
    have mem := List.mem_of_getElem? hu
    obtain ⟨lu, bu⟩ := h.s u mem
    refine st_asg (ev_callP (ea_cons (ev_op (ev_tup (ea_cons (ev_var rfl (ea_nil ⟨by simp, ev_var rfl (ro_catT (by simp; omega) ?_)⟩)))))))
    refine ea_nil ⟨⟨((gcdL (us.take i).flatten : Nat) : Int) :: u, rfl, by simp; omega⟩, fun d ⟨v, e, ed⟩ => ⟨.d (rowD u), rfl, ?_⟩⟩
    have ev : ((gcdL (us.take i).flatten : Nat) : Int) :: u = v := map_int_inj (by injection e with e; injection e)
    subst ev
    subst ed
    have e1 : gcdL (us.take (i + 1)).flatten = gcdL (((gcdL (us.take i).flatten : Nat) : Int) :: u) := by
      rw [List.take_add_one, hu, List.flatten_append, gcdL_append]
      show _ = Nat.gcd (((gcdL (us.take i).flatten : Nat) : Int)).natAbs (gcdL u)
      rw [Int.natAbs_natCast]
      simp
    rw [e1]
    rfl
  · rintro L2 Γ2 ⟨s2, rfl, rfl⟩
    rw [List.length_map, List.take_length]
    refine st_ret (ev_cb (ea_cons (ev_new (en_lcS b (wipe1 2) (ev_var rfl ⟨_, rfl, by rw [List.length_map]; omega, fun i acc => acc = ((thinA us).take i).map rowD, ⟨rfl, fun i D d' acc hi hJ hin => ?_⟩, fun acc hJ => ?_⟩)))))
    · obtain ⟨u, hu, rfl⟩ := rows_get hi
      have mem := List.mem_of_getElem? hu
      obtain ⟨lu, bu⟩ := h.s u mem
      refine et_yes ⟨fun _ => ?_, fun z => nomatch z⟩
      refine ev_callP (ea_cons (ev_var rfl (ea_cons (ev_var rfl (ea_nil ⟨⟨u, _, rfl, by omega, h.div mem⟩, fun d ⟨v, g, e, ed⟩ => ?_⟩)))))
      have e2 : u = v ∧ ((gcdL us.flatten : Nat) : Int) = g := by
        simp only [List.cons.injEq, and_true, PyData.int.injEq, PyData.tuple.injEq, rowD] at e
        exact ⟨map_int_inj e.1, e.2⟩
      obtain ⟨rfl, rfl⟩ := e2
      subst ed
      have e3 : (thinA us)[i]? = some (u.map fun x => x / ((gcdA us : Nat) : Int)) := by
        unfold thinA
        rw [List.getElem?_map, hu]
        rfl
      show acc ++ [_] = ((thinA us).take (i + 1)).map rowD
      rw [hJ, List.take_add_one, e3, List.map_append]
      rfl
    · refine ea_nil (co_tupL ⟨b, us, rfl, ?_⟩)
      rw [hJ, List.length_map, List.take_of_length_le (by unfold thinA; rw [List.length_map]; exact Nat.le_refl _)]
theorem ok_thinned_all (T : Tx K mg) : FnOk P w K mg base CX0 2 T.a_thinned_all T.d_thinned_all p_thinned_all (sp_thinned_all K) := by
  refine T.F_thinned_all.ok sc_thinned_all (fun vs H Q E h => len_thinned_all K vs H Q E h) (fun cdv A outer s H vs Q E hr h => ?_)
  exact ⟨t_thinned_all K, (pss_cons (ps_set (i := 1) sc_thinned_all.nd rfl (Or.inr rfl) pe_int)
  (pss_cons (ps_for PassesOwn.never rfl (pi_seq (pv 0)) (pg_name (i := 2) sc_thinned_all.nd rfl (Or.inl rfl)) (pss_one (ps_set (i := 1) sc_thinned_all.nd rfl (Or.inr rfl) (pe_call (ok_content T) (hr.mono (by decide)) rfl T.g_content T.F_content.kp (b_content T) .nil pass0 (pa_cons (pe_op op_addA (pe_tup (pa_cons (pv 1) pa_nil)) (pv 2)) pa_nil)))))
  (pss_one (ps_ret (pe_callTy call_tuple_of (by rfl) T.n_tuple (by decide +kernel) (pa_cons (pe_lc (own := [("polynomial", 2)]) (by rfl) sc_thinned_all.nd (pi_seq (pv 0)) (blkOk_by (own := [("polynomial", 2)]) (N := N_thinned_all) (sc := defScope s_thinned_all) (by decide +kernel)) (fun _ _ _ _ _ => pg_name (i := 2) sc_thinned_all.nd rfl (Or.inl rfl)) (fun _ _ _ _ _ => pts_nil) (fun _ _ _ _ _ => (pe_call (ok_shrunk T) (hr.mono (by decide)) rfl T.g_shrunk T.F_shrunk.kp (b_shrunk T) .nil pass0 (pa_cons (pv 2) (pa_cons (pv 1) pa_nil))))) pa_nil)))))), pure_thinned_all K vs H Q E h⟩
/-! ### pushes_of -/
def av (dd ss : List Fr) (i : Nat) (x : Rat) : Rat := xa (jv dd) (jv ss) x i
structure PuOk (dd ss : List Fr) (cs : List Ck) (ps : List (List Int)) : Prop where
  l : ps.length = cs.length
  c : ∃ c : Rat, 0 < c ∧ ∀ i k x, cs[i]? = some k → pI (ps.getD i []) x = c * (val k.w * av dd ss k.i x)
  b : ∀ p ∈ ps, n1 p < 2 ^ 3900 ∧ p.length ≤ 100
def ck3 (c : Ck) : List PyData := [.int (c.i : Int), .int (c.t : Int), frD c.w]
theorem ck3_map (cs : List Ck) : cs.map ckD = (cs.map ck3).map PyData.tuple := by
  rw [List.map_map]
  rfl
theorem ck3_at {cs : List Ck} {i : Nat} {d : List PyData} (h : (cs.map ck3)[i]? = some d) : ∃ c, cs[i]? = some c ∧ d = ck3 c := by
  rw [List.getElem?_map] at h
  cases e : cs[i]? with
  | none => rw [e] at h; cases h
  | some c => rw [e] at h; exact ⟨c, rfl, (Option.some.inj h).symm⟩
def puRow (as : List (List Int × Int)) (sc : Int) (c : Ck) : List Int := trim (comb (c.w.1 * (sc / ((as.getD c.i ([], 1)).2 * c.w.2))) (as.getD c.i ([], 1)).1 0 [])
theorem lcm_dvd {a b m : Int} (ha : a ∣ m) (hb : b ∣ m) : ((a.natAbs.lcm b.natAbs : Nat) : Int) ∣ m := by
  refine Int.natAbs_dvd_natAbs.mp ?_
  rw [Int.natAbs_natCast]
  have h1 := Int.natAbs_dvd_natAbs.mpr ha
  have h2 := Int.natAbs_dvd_natAbs.mpr hb
  exact Nat.lcm_dvd h1 h2
theorem map_row_inj : ∀ {u v : List (List Int)}, u.map rowD = v.map rowD → u = v
  | [], [], _ => rfl
  | [], _ :: _, h => by cases h
  | _ :: _, [], h => by cases h
  | a :: u, b :: v, h => by
    simp only [List.map_cons, List.cons.injEq] at h
    have e : a = b := by
      have := h.1
      unfold rowD at this
      simp only [PyData.tuple.injEq] at this
      exact map_int_inj this
    rw [e, map_row_inj h.2]

def pre_pushes_of : List PyData → Prop := fun ds => ∃ (dd ss : List Fr) (cs : List Ck), ds = [engD dd ss cs] ∧ Eng dd ss cs
def post_pushes_of : List PyData → PyData → Prop := fun ds d => ∃ (dd ss : List Fr) (cs : List Ck) (ps : List (List Int)), ds = [engD dd ss cs] ∧ d = .tuple (ps.map rowD) ∧ PuOk dd ss cs ps
abbrev sp_pushes_of (K : PySem.W.Frag) : Sp := SpP K pre_pushes_of post_pushes_of
theorem len_pushes_of (K : PySem.W.Frag) (vs : List V) (H : Hp) (Q : VK) (E : XK) (h : sp_pushes_of K vs H Q E) : vs.length = p_pushes_of.length := len_P (n := 1) h fun ds hp => by
  obtain ⟨dd, ss, cs, e, h⟩ := hp
  rw [e]; rfl
def t_pushes_of (K : PySem.W.Frag) : TS :=
  (tSeq (tAsg (tVar 0) (gTup K 2 (gCons (gName 1) (gCons (gName 2) gNil))))
  (tSeq (tAsg (tOp (rIx K) (tCall (sp_run_parts K) [] E0 (tCons (tVar 1) tNil)) (tC (.int 0))) (gName 3))
  (tSeq (tAsg (tC (.int 1)) (gName 4))
  (tSeq (tFor (iTup K (tVar 2)) (gTup K 3 (gCons (gName 5) (gCons (gName 6) (gCons (gName 7) gNil)))) (tAsg (tCB rLcm2 (tCons (tVar 4) (tCons (tOp (rMulA K) (tOp (rIx K) (tOp (rIx K) (tVar 3) (tVar 5)) (tC (.int 1))) (tOp (rIx K) (tVar 7) (tC (.int 1)))) tNil))) (gName 4)))
  (tSeq (tAsg (tLst tNil) (gName 8))
  (tSeq (tFor (iTup K (tVar 2)) (gTup K 3 (gCons (gName 5) (gCons (gName 6) (gCons (gName 7) gNil)))) (tSeq (tAsg (tOp (rIx K) (tVar 3) (tVar 5)) (gTup K 2 (gCons (gName 9) (gCons (gName 10) gNil))))
  (tDrop (tBM K "list" rAppend (tVar 8) (tCons (tCall (sp_blend K) [] E0 (tCons (tVar 9) (tCons (tOp (rMulA K) (tOp (rIx K) (tVar 7) (tC (.int 0))) (tOp rFdA (tVar 4) (tOp (rMulA K) (tVar 10) (tOp (rIx K) (tVar 7) (tC (.int 1)))))) (tCons (tTup tNil) (tCons (tC (.int 0)) tNil))))) tNil)))))
  (tRet (tCall (sp_thinned_all K) [] E0 (tCons (tVar 8) tNil)))))))))
theorem pure_pushes_of (K : PySem.W.Frag) (vs : List V) (H : Hp) (Q : VK) (E : XK) (h : sp_pushes_of K vs H Q E) : t_pushes_of K { nx := fun _ H' => Q .non H', rt := Q } (L2.start N_pushes_of vs) H := body_P h fun B ds hW hp => by
  obtain ⟨dd, ss, cs, e, h⟩ := hp
  subst e
  unfold t_pushes_of
  have c1 := h.c1
  have c6 := h.c6
  have n1' := h.ln.c1
  refine st_seq (st_unpack (ev_var rfl ⟨_, rfl, rfl, tg_cons (tg_cons (tg_nil ?_))⟩))
  refine st_seq (st_asg (ev_op (ev_callP (ea_cons (ev_var rfl (ea_nil ⟨⟨dd, ss, rfl, h.ln⟩, fun d ⟨dd', ss', e, as, ts, en_, ed, PL, _⟩ => ?_⟩))))))
  obtain ⟨rfl, rfl⟩ := lineD_inj e
  subst ed
  refine ev_int (rok_ixsT (d := .list (as.map angD)) rfl ?_)
  have at_as : ∀ {i : Nat}, i < dd.length → as[i]? = some (as.getD i ([], 1)) := fun {i} hi => by
    rw [List.getD_eq_getElem?_getD, List.getElem?_eq_getElem (by rw [PL.la]; exact hi)]
    rfl
  have ix : ∀ {i : Nat}, i < dd.length → atI (as.map angD) (i : Int) = some (angD (as.getD i ([], 1))) := fun {i} hi => by
    rw [atI_n, List.getElem?_map, at_as hi]
    rfl
  have bot : ∀ {i : Nat}, i < dd.length → 0 < (as.getD i ([], 1)).2 ∧ (as.getD i ([], 1)).2.natAbs < 2 ^ 974 ∧ (as.getD i ([], 1)).1.getD 0 0 ≠ 0 ∧ n1 (as.getD i ([], 1)).1 < 2 ^ 980 ∧ (as.getD i ([], 1)).1.length ≤ 8 := fun hi => ang_bot h.ln PL (at_as hi)
  obtain ⟨M, hM⟩ : ∃ M, M = (as.getD (dd.length - 1) ([], 1)).2 := ⟨_, rfl⟩
  have Mb := bot (i := dd.length - 1) (by omega)
  rw [← hM] at Mb
  have dvM : ∀ {i : Nat}, i < dd.length → (as.getD i ([], 1)).2 ∣ M := fun {i} hi => by
    rw [hM]
    exact PL.dv i (dd.length - 1) _ _ (by omega) (at_as hi) (at_as (by omega))
  refine st_seq (st_asg (ev_int ?_))
  refine st_seq (st_forTG (ev_var rfl ⟨cs.map ck3, congrArg PyData.tuple (ck3_map cs), fun d hd => by obtain ⟨c, _, rfl⟩ := List.mem_map.mp hd; rfl, fun i L2 Γ2 => ∃ (sc W : Int) (s5 s6 s7 : Sl), L2 = [] ∧ Γ2 = [.d (engD dd ss cs), .d (lineD dd ss), .d (.tuple (cs.map ckD)), .d (.list (as.map angD)), .d (.int sc), s5, s6, s7, .un, .un, .un] ∧ 0 < sc ∧ 0 < W ∧ W.natAbs ≤ 2 ^ (4 * i) ∧ sc ∣ M * W ∧ ∀ c ∈ cs.take i, (as.getD c.i ([], 1)).2 * c.w.2 ∣ sc, ⟨1, 1, .un, .un, .un, rfl, rfl, by decide, by decide, by decide, ⟨_, (Int.one_mul _).symm⟩, by simp⟩, ?_, ?_⟩))
  · rintro i d' L2 Γ2 g hi ⟨sc, W, s5, s6, s7, rfl, rfl, s0, w0, wb, dv, al⟩
    obtain ⟨c, hc, rfl⟩ := ck3_at hi
    have mem := List.mem_of_getElem? hc
    have il := (List.getElem?_eq_some_iff.mp hc).1
    have ci := h.di c mem
    obtain ⟨b1, b2, _⟩ := bot ci
    have wp := (h.ok c mem).1
    have wz := (h.sz c mem).2
    refine tg_cons (tg_cons (tg_cons (tg_nil ?_)))
    have b3 : ((as.getD c.i ([], 1)).2 * c.w.2).natAbs < 2 ^ 1000 := pow_up (natAbs_mul_lt b2 wz) (by decide)
    have scb : sc.natAbs < 2 ^ 1000 := by
      have h1 := Nat.le_of_dvd (by rw [Int.natAbs_mul]; exact Nat.mul_pos (by omega) (by omega)) (Int.natAbs_dvd_natAbs.mpr dv)
      rw [Int.natAbs_mul] at h1
      have h2 : 2 ^ (4 * i) ≤ 2 ^ 20 := Nat.pow_le_pow_right (by decide) (by omega)
      have h3 := Nat.mul_le_mul (Nat.le_of_lt Mb.2.1) (Nat.le_trans wb h2)
      have h4 : 2 ^ 974 * 2 ^ 20 < 2 ^ 1000 := by rw [← Nat.pow_add]; exact Nat.pow_lt_pow_right (by decide) (by decide)
      omega
    refine st_asg (ev_cb (ea_cons (ev_var rfl ?_)))
    refine ea_cons (ev_op (ev_op (ev_op (ev_var rfl (ev_var rfl (rok_ixsL (ix ci) (ev_int (rok_ixsT (d := .int (as.getD c.i ([], 1)).2) rfl (ev_op (ev_var rfl (ev_int (rok_ixsT (d := .int c.w.2) rfl (ro_mulW (mulW_of b2 wz (by decide)) (ea_nil (cok_lcm2 scb b3 ?_)))))))))))))))
    have dM : ∃ z, M = (as.getD c.i ([], 1)).2 * z := dvM ci
    obtain ⟨z, hz⟩ := dM
    have lp : 0 < ((sc.natAbs.lcm ((as.getD c.i ([], 1)).2 * c.w.2).natAbs : Nat) : Int) := by
      have := Nat.lcm_pos (m := sc.natAbs) (n := ((as.getD c.i ([], 1)).2 * c.w.2).natAbs) (by omega) (by rw [Int.natAbs_mul]; exact Nat.mul_pos (by omega) (by omega))
      omega
    refine ⟨_, W * c.w.2, _, _, _, rfl, rfl, lp, Int.mul_pos w0 wp, ?_, ?_, fun k hk => ?_⟩
    · rw [Int.natAbs_mul, show 4 * (i + 1) = 4 * i + 4 by omega, Nat.pow_add]
      exact Nat.mul_le_mul wb (Nat.le_of_lt wz)
    · refine lcm_dvd ?_ ⟨z * W, ?_⟩
      · rw [← Int.mul_assoc]
        exact Int.dvd_trans dv ⟨_, rfl⟩
      · rw [hz]
        grind
    · rw [List.take_add_one, hc] at hk
      rcases List.mem_append.mp hk with q | q
      · exact Int.dvd_trans (al k q) (Int.natAbs_dvd_natAbs.mp (by rw [Int.natAbs_natCast]; exact Nat.dvd_lcm_left _ _))
      · rw [List.mem_singleton.mp q]
        exact Int.natAbs_dvd_natAbs.mp (by rw [Int.natAbs_natCast]; exact Nat.dvd_lcm_right _ _)
  · rintro L2 Γ2 ⟨sc, W, s5, s6, s7, rfl, rfl, s0, w0, wb, dv, al⟩
    rw [List.length_map, List.take_length] at al
    rw [List.length_map] at wb
    have scb : sc.natAbs < 2 ^ 1000 := by
      have h1 := Nat.le_of_dvd (by rw [Int.natAbs_mul]; exact Nat.mul_pos (by omega) (by omega)) (Int.natAbs_dvd_natAbs.mpr dv)
      rw [Int.natAbs_mul] at h1
      have h2 : 2 ^ (4 * cs.length) ≤ 2 ^ 24 := Nat.pow_le_pow_right (by decide) (by omega)
      have h3 := Nat.mul_le_mul (Nat.le_of_lt Mb.2.1) (Nat.le_trans wb h2)
      have h4 : 2 ^ 974 * 2 ^ 24 < 2 ^ 1000 := by rw [← Nat.pow_add]; exact Nat.pow_lt_pow_right (by decide) (by decide)
      omega
    have rowv : ∀ c ∈ cs, (∀ x, pI (puRow as sc c) x = (sc : Rat) * (val c.w * av dd ss c.i x)) ∧ n1 (puRow as sc c) < 2 ^ 3900 ∧ (puRow as sc c).length ≤ 8 ∧ (c.w.1 * (sc / ((as.getD c.i ([], 1)).2 * c.w.2))).natAbs < 2 ^ 1004 ∧ ∃ y ∈ puRow as sc c, y ≠ 0 := fun c mem => by
      have ci := h.di c mem
      obtain ⟨b1, b2, b3, b4, b5⟩ := bot ci
      have wp := (h.ok c mem).1
      obtain ⟨z, hz⟩ := al c mem
      have bp : 0 < (as.getD c.i ([], 1)).2 * c.w.2 := Int.mul_pos b1 wp
      have eq : sc / ((as.getD c.i ([], 1)).2 * c.w.2) = z := by rw [hz, Int.mul_ediv_cancel_left _ (by omega)]
      have z0 : 0 < z := by
        rcases Int.lt_trichotomy z 0 with q | q | q
        · have := Int.mul_neg_of_pos_of_neg bp q
          omega
        · rw [q] at hz
          omega
        · exact q
      have zb : z.natAbs < 2 ^ 1000 := by
        have : z.natAbs ≤ sc.natAbs := by
          rw [hz, Int.natAbs_mul]
          exact Nat.le_mul_of_pos_left _ (by omega)
        omega
      have r0 : ((0 : Int) : Rat) = 0 := rfl
      have v := fun x => ang_val h.ln PL (at_as ci) x
      refine ⟨fun x => ?_, ?_, ?_, ?_, ?_⟩
      · unfold puRow av
        rw [pI_sc, v, eq, hz, Rat.intCast_mul, Rat.intCast_mul, Rat.intCast_mul]
        have q1 := ratInt_ne (a := c.w.2) (by omega)
        unfold val
        grind
      · unfold puRow
        rw [eq]
        exact pow_up (Nat.lt_of_le_of_lt (n1_sc _ _) (mul_bd (natAbs_mul_lt (h.sz c mem).1 zb) b4)) (by decide)
      · exact Nat.le_trans (len_sc _ _) b5
      · rw [eq]
        exact natAbs_mul_lt (h.sz c mem).1 zb
      · have g0 : (puRow as sc c).getD 0 0 ≠ 0 := by
          unfold puRow
          rw [trim_get, comb_get, eq]
          have := Int.mul_ne_zero (Int.mul_ne_zero (h.nz c mem) (show z ≠ 0 by omega)) b3
          simpa using this
        exact ⟨_, mem_getD g0, g0⟩
    refine st_seq (st_own (en_lst (ea_nil ⟨by simp, fun l => ?_⟩)))
    refine st_seq (st_forTG (ev_var rfl ⟨cs.map ck3, congrArg PyData.tuple (ck3_map cs), fun d hd => by obtain ⟨c, _, rfl⟩ := List.mem_map.mp hd; rfl, fun i L2 Γ2 => ∃ (s5 s6 s7 s9 s10 : Sl), L2 = [l] ∧ Γ2 = [.d (engD dd ss cs), .d (lineD dd ss), .d (.tuple (cs.map ckD)), .d (.list (as.map angD)), .d (.int sc), s5, s6, s7, .own l (((cs.take i).map (puRow as sc)).map rowD), s9, s10], ⟨_, _, _, _, _, rfl, rfl⟩, ?_, ?_⟩))
    · rintro i d' L2 Γ2 g hi ⟨s5, s6, s7, s9, s10, rfl, rfl⟩
      obtain ⟨c, hc, rfl⟩ := ck3_at hi
      have mem := List.mem_of_getElem? hc
      have il := (List.getElem?_eq_some_iff.mp hc).1
      have ci := h.di c mem
      obtain ⟨b1, b2, b3, b4, b5⟩ := bot ci
      obtain ⟨_, _, _, r4, _⟩ := rowv c mem
      have wp := (h.ok c mem).1
      have wz := (h.sz c mem).2
      have bp : 0 < (as.getD c.i ([], 1)).2 * c.w.2 := Int.mul_pos b1 wp
      have bb : ((as.getD c.i ([], 1)).2 * c.w.2).natAbs < 2 ^ 1000 := pow_up (natAbs_mul_lt b2 wz) (by decide)
      have qb : (sc / ((as.getD c.i ([], 1)).2 * c.w.2)).natAbs < 2 ^ 1000 := by
        have := Int.natAbs_ediv_le_natAbs sc ((as.getD c.i ([], 1)).2 * c.w.2)
        omega
      refine tg_cons (tg_cons (tg_cons (tg_nil ?_)))
      refine st_seq (st_unpack (ev_op (ev_var rfl (ev_var rfl (rok_ixsL (ix ci) ⟨_, rfl, rfl, tg_cons (tg_cons (tg_nil ?_))⟩)))))
      refine st_append rfl (by simp; omega) (ev_callP ?_)
      refine ea_cons (ev_var rfl (ea_cons (ev_op (ev_op (ev_var rfl (ev_int (rok_ixsT (d := .int c.w.1) rfl ?_))))))) 
      refine ev_op (ev_var rfl (ev_op (ev_var rfl (ev_op (ev_var rfl (ev_int (rok_ixsT (d := .int c.w.2) rfl ?_)))))))
      refine ro_mulW (mulW_of b2 wz (by decide)) (ro_fdW (cdw bp bb (by decide)) (ro_mulW (mulW_of (h.sz c mem).1 qb (by decide)) ?_))
      refine ea_cons (ev_tup (ea_nil ⟨by simp, ea_cons (ev_int (ea_nil ⟨⟨(as.getD c.i ([], 1)).1, [], _, 0, rfl, by omega, by simp, pow_up r4 (by decide), by decide, n1_bd (pow_up b4 (by decide)), by simp [bd]⟩, fun d ⟨u', v', a', b', e, ed⟩ => ?_⟩))⟩))
      have e2 : (as.getD c.i ([], 1)).1 = u' ∧ c.w.1 * (sc / ((as.getD c.i ([], 1)).2 * c.w.2)) = a' ∧ [] = v' ∧ 0 = b' := by
        simp only [rowD, List.cons.injEq, and_true, PyData.tuple.injEq, PyData.int.injEq] at e
        exact ⟨map_int_inj e.1, e.2.1, map_int_inj (u := []) e.2.2.1, e.2.2.2⟩
      obtain ⟨rfl, rfl, rfl, rfl⟩ := e2
      subst ed
      have em : ((cs.take i).map (puRow as sc)).map rowD ++ [PyData.tuple ((trim (comb (c.w.1 * (sc / ((as.getD c.i ([], 1)).2 * c.w.2))) (as.getD c.i ([], 1)).1 0 [])).map .int)] = ((cs.take (i + 1)).map (puRow as sc)).map rowD := by
        rw [List.take_add_one, hc, List.map_append, List.map_append]
        rfl
      rw [em]
      exact ⟨_, _, _, _, _, rfl, rfl⟩
    · rintro L2 Γ2 ⟨s5, s6, s7, s9, s10, rfl, rfl⟩
      rw [List.length_map, List.take_length]
      have rw_ : Rws (cs.map (puRow as sc)) := by
        refine ⟨by rw [List.length_map]; omega, fun u hu => ?_, .inr ?_⟩
        · obtain ⟨c, mem, rfl⟩ := List.mem_map.mp hu
          obtain ⟨_, r2, r3, _⟩ := rowv c mem
          exact ⟨by omega, n1_bd (pow_up r2 (by decide))⟩
        · have mem : cs[0] ∈ cs := List.getElem_mem (by omega)
          obtain ⟨_, _, _, _, y, hy, y0⟩ := rowv _ mem
          exact ⟨_, List.mem_map.mpr ⟨_, mem, rfl⟩, y, hy, y0⟩
      refine st_freeze 8 rfl (by simp) (st_ret (ev_callP (ea_cons (ev_var rfl (ea_nil ⟨⟨false, _, rfl, rw_⟩, fun d ⟨b, us', e, ed⟩ => ?_⟩)))))
      have eu : cs.map (puRow as sc) = us' := by
        have e := (List.cons.inj e).1
        cases b with
        | true => cases e
        | false => exact map_row_inj (PyData.list.inj e)
      subst eu
      have g0 : gcdA (cs.map (puRow as sc)) ≠ 0 := by
        show gcdL _ ≠ 0
        rcases rw_.z with q | ⟨u, hu, y, hy, y0⟩
        · have mem : cs[0] ∈ cs := List.getElem_mem (by omega)
          obtain ⟨_, _, _, _, y, hy, y0⟩ := rowv _ mem
          rw [q _ (List.mem_map.mpr ⟨_, mem, rfl⟩)] at hy
          cases hy
        · have := gcdL_pos ⟨y, List.mem_flatten.mpr ⟨u, hu, hy⟩, y0⟩
          omega
      have gR : (0 : Rat) < ((gcdA (cs.map (puRow as sc)) : Nat) : Rat) := by
        have := ratInt_pos (a := ((gcdA (cs.map (puRow as sc)) : Nat) : Int)) (by omega)
        rwa [Rat.intCast_natCast] at this
      refine ⟨dd, ss, cs, _, rfl, ed, ⟨by unfold thinA; rw [List.length_map, List.length_map], ⟨(sc : Rat) / ((gcdA (cs.map (puRow as sc)) : Nat) : Rat), ?_, fun i k x hk => ?_⟩, fun p hp => ?_⟩⟩
      · rw [Rat.div_def]
        exact Rat.mul_pos (ratInt_pos s0) (Rat.inv_pos.mpr gR)
      · have mem := List.mem_of_getElem? hk
        have e1 : (thinA (cs.map (puRow as sc))).getD i [] = (puRow as sc k).map fun x => x / ((gcdA (cs.map (puRow as sc)) : Nat) : Int) := by
          unfold thinA
          rw [List.getD_eq_getElem?_getD, List.getElem?_map, List.getElem?_map, hk]
          rfl
        have e2 := pI_divA (us := cs.map (puRow as sc)) (List.mem_map.mpr ⟨k, mem, rfl⟩) g0 x
        rw [e1]
        rw [(rowv k mem).1] at e2
        have gn : ((gcdA (cs.map (puRow as sc)) : Nat) : Rat) ≠ 0 := fun z => by rw [z] at gR; exact absurd gR (by decide)
        rw [show gcdL (cs.map (puRow as sc)).flatten = gcdA (cs.map (puRow as sc)) from rfl] at e2
        grind
      · unfold thinA at hp
        obtain ⟨u, hu, rfl⟩ := List.mem_map.mp hp
        obtain ⟨c, mem, rfl⟩ := List.mem_map.mp hu
        obtain ⟨_, r2, r3, _⟩ := rowv c mem
        refine ⟨Nat.lt_of_le_of_lt (n1_div _ (by omega) _) r2, by rw [List.length_map]; omega⟩
theorem ok_pushes_of (T : Tx K mg) : FnOk P w K mg base CX0 4 T.a_pushes_of T.d_pushes_of p_pushes_of (sp_pushes_of K) := by
  refine T.F_pushes_of.ok sc_pushes_of (fun vs H Q E h => len_pushes_of K vs H Q E h) (fun cdv A outer s H vs Q E hr h => ?_)
  exact ⟨t_pushes_of K, (pss_cons (ps_asg (pv 0) (pg_tup (by rfl) (pgs_cons (pg_name (i := 1) sc_pushes_of.nd rfl (Or.inl rfl)) (pgs_cons (pg_name (i := 2) sc_pushes_of.nd rfl (Or.inl rfl)) pgs_nil))))
  (pss_cons (ps_set (i := 3) sc_pushes_of.nd rfl (Or.inl rfl) (pe_ix ix_seq (pe_call (ok_run_parts T) (hr.mono (by decide)) rfl T.g_run_parts T.F_run_parts.kp (b_run_parts T) .nil pass0 (pa_cons (pv 1) pa_nil)) pe_int (fun _ _ => rfl)))
  (pss_cons (ps_set (i := 4) sc_pushes_of.nd rfl (Or.inl rfl) pe_int)
  (pss_cons (ps_for PassesOwn.never rfl (pi_tup (pv 2)) (pg_tup (by rfl) (pgs_cons (pg_name (i := 5) sc_pushes_of.nd rfl (Or.inl rfl)) (pgs_cons (pg_name (i := 6) sc_pushes_of.nd rfl (Or.inl rfl)) (pgs_cons (pg_name (i := 7) sc_pushes_of.nd rfl (Or.inl rfl)) pgs_nil)))) (pss_one (ps_set (i := 4) sc_pushes_of.nd rfl (Or.inl rfl) (pe_callBfun cr_lcm2 (by rfl) T.l_lcm (pa_cons (pv 4) (pa_cons (pe_op op_mulA (pe_ix ix_seq (pe_ix ix_seq (pv 3) (pv 5) (fun _ _ => rfl)) pe_int (fun _ _ => rfl)) (pe_ix ix_seq (pv 7) pe_int (fun _ _ => rfl))) pa_nil))))))
  (pss_cons (ps_set (i := 8) sc_pushes_of.nd rfl (Or.inl rfl) (pe_lst pa_nil))
  (pss_cons (ps_for PassesOwn.never rfl (pi_tup (pv 2)) (pg_tup (by rfl) (pgs_cons (pg_name (i := 5) sc_pushes_of.nd rfl (Or.inl rfl)) (pgs_cons (pg_name (i := 6) sc_pushes_of.nd rfl (Or.inl rfl)) (pgs_cons (pg_name (i := 7) sc_pushes_of.nd rfl (Or.inl rfl)) pgs_nil)))) (pss_cons (ps_asg (pe_ix ix_seq (pv 3) (pv 5) (fun _ _ => rfl)) (pg_tup (by rfl) (pgs_cons (pg_name (i := 9) sc_pushes_of.nd rfl (Or.inl rfl)) (pgs_cons (pg_name (i := 10) sc_pushes_of.nd rfl (Or.inl rfl)) pgs_nil))))
  (pss_one (ps_expr (pe_bm PySem.F.plainAttrs_list PySem.F.slot_list_append PySem.F.type_list_append mt_append (pv 8) (pa_cons (pe_call (ok_blend T) (hr.mono (by decide)) rfl T.g_blend T.F_blend.kp (b_blend T) .nil pass0 (pa_cons (pv 9) (pa_cons (pe_op op_mulA (pe_ix ix_seq (pv 7) pe_int (fun _ _ => rfl)) (pe_op op_fdA (pv 4) (pe_op op_mulA (pv 10) (pe_ix ix_seq (pv 7) pe_int (fun _ _ => rfl))))) (pa_cons (pe_tup pa_nil) (pa_cons pe_int pa_nil))))) pa_nil))))))
  (pss_one (ps_ret (pe_call (ok_thinned_all T) (hr.mono (by decide)) rfl T.g_thinned_all T.F_thinned_all.kp (b_thinned_all T) .nil pass0 (pa_cons (pv 8) pa_nil)))))))))), pure_pushes_of K vs H Q E h⟩
/-! ### twelfths_of -/

def pre_twelfths_of : List PyData → Prop := fun ds => ∃ (dd ss : List Fr) (cs : List Ck), ds = [engD dd ss cs] ∧ Eng dd ss cs
def post_twelfths_of : List PyData → PyData → Prop := fun ds d => ∃ (dd ss : List Fr) (cs : List Ck), ds = [engD dd ss cs] ∧ d = .tuple (cs.map fun c => .int (c.t : Int))
abbrev sp_twelfths_of (K : PySem.W.Frag) : Sp := SpP K pre_twelfths_of post_twelfths_of
theorem len_twelfths_of (K : PySem.W.Frag) (vs : List V) (H : Hp) (Q : VK) (E : XK) (h : sp_twelfths_of K vs H Q E) : vs.length = p_twelfths_of.length := len_P (n := 1) h fun ds hp => by
  obtain ⟨dd, ss, cs, e, h⟩ := hp
  rw [e]; rfl
def t_twelfths_of (K : PySem.W.Frag) : TS :=
  (tRet (tCB (rTupleQ K) (tCons (tLc (iTup K (tOp (rIx K) (tVar 0) (tC (.int 1)))) (gThree K 1 2 1) tYes (tVar 2) [1, 2]) tNil)))
theorem pure_twelfths_of (K : PySem.W.Frag) (vs : List V) (H : Hp) (Q : VK) (E : XK) (h : sp_twelfths_of K vs H Q E) : t_twelfths_of K { nx := fun _ H' => Q .non H', rt := Q } (L2.start N_twelfths_of vs) H := body_P h fun B ds hW hp => by
  obtain ⟨dd, ss, cs, e, h⟩ := hp
  subst e
  unfold t_twelfths_of
  have c8 := h.c8
  refine st_ret (ev_cb (ea_cons (ev_new (en_lcT3 wipeE (ev_op (ev_var rfl (ev_int (rok_ixsT (d := .tuple (cs.map ckD)) rfl ⟨cs.map fun c => (.int (c.i : Int), .int (c.t : Int), frD c.w), ?_, by rw [List.length_map]; omega, fun i acc => acc = ((cs.take i).map fun c => PyData.int (c.t : Int)), ⟨rfl, fun i D x y z acc hi hJ hin => ?_⟩, fun acc hJ => ?_⟩))))))))
  · rw [List.map_map]
    rfl
  · have hi : (cs.map fun c => (PyData.int (c.i : Int), PyData.int (c.t : Int), frD c.w))[i]? = some (x, y, z) := hi
    rw [List.getElem?_map] at hi
    cases e : cs[i]? with
    | none => rw [e] at hi; cases hi
    | some c =>
      rw [e] at hi
      have hi := Option.some.inj hi
      simp only [Prod.mk.injEq] at hi
      obtain ⟨rfl, rfl, rfl⟩ := hi
      refine et_yes ⟨fun _ => ev_var rfl ?_, fun z => nomatch z⟩
      show acc ++ [_] = (cs.take (i + 1)).map fun c => PyData.int (c.t : Int)
      rw [hJ, List.take_add_one, e, List.map_append]
      rfl
  · rw [List.length_map, List.take_length] at hJ
    subst hJ
    exact ea_nil (co_tupL ⟨dd, ss, cs, rfl, rfl⟩)
theorem ok_twelfths_of (T : Tx K mg) : FnOk P w K mg base CX0 1 T.a_twelfths_of T.d_twelfths_of p_twelfths_of (sp_twelfths_of K) := by
  refine T.F_twelfths_of.ok sc_twelfths_of (fun vs H Q E h => len_twelfths_of K vs H Q E h) (fun cdv A outer s H vs Q E hr h => ?_)
  exact ⟨t_twelfths_of K, (pss_one (ps_ret (pe_callTy call_tuple_of (by rfl) T.n_tuple (by decide +kernel) (pa_cons (pe_lc (own := [("_", 1), ("twelfth", 2)]) (by rfl) sc_twelfths_of.nd (pi_tup (pe_ix ix_seq (pv 0) pe_int (fun _ _ => rfl))) (blkOk_by (own := [("_", 1), ("twelfth", 2)]) (N := N_twelfths_of) (sc := defScope s_twelfths_of) (by decide +kernel)) (fun _ _ _ _ _ => pg_tup (by rfl) (pgs_cons (pg_name (i := 1) sc_twelfths_of.nd rfl (Or.inl rfl)) (pgs_cons (pg_name (i := 2) sc_twelfths_of.nd rfl (Or.inl rfl)) (pgs_cons (pg_name (i := 1) sc_twelfths_of.nd rfl (Or.inl rfl)) pgs_nil)))) (fun _ _ _ _ _ => pts_nil) (fun _ _ _ _ _ => (pv 2))) pa_nil)))), pure_twelfths_of K vs H Q E h⟩
/-! ### stir_of -/
def tabP : List (Int × Int) := [(2, 0), (0, 1), (1, 0), (0, 0), (-1, 0), (0, -1), (-2, 0), (0, -1), (-1, 0), (0, 0), (1, 0), (0, 1)]
def tabD : List PyData := tabP.map fun p => .tuple [.int p.1, .int p.2]
def tw (n : Int) : Int × Int := tabP.getD (n % 12).toNat (0, 0)
def far (n : Int) : List Int := [(tw n).1, (tw n).2, (tw (n - 3)).1, (tw (n - 3)).2]
theorem tab_at (n : Int) : atI tabD (n % 12) = some (.tuple [.int (tw n).1, .int (tw n).2]) := by
  have h0 := Int.emod_nonneg n (show (12 : Int) ≠ 0 by decide)
  have h1 := Int.emod_lt_of_pos n (show (0 : Int) < 12 by decide)
  unfold tw
  obtain ⟨m, hm⟩ : ∃ m : Nat, n % 12 = (m : Int) := ⟨(n % 12).toNat, by omega⟩
  rw [hm, Int.toNat_natCast, atI_n]
  have hl : m < tabP.length := by show m < 12; omega
  unfold tabD
  rw [List.getElem?_map, List.getD_eq_getElem?_getD, List.getElem?_eq_getElem hl]
  rfl
theorem tw_le (n : Int) : (tw n).1.natAbs ≤ 2 ∧ (tw n).2.natAbs ≤ 2 := by
  have h1 := Int.emod_lt_of_pos n (show (0 : Int) < 12 by decide)
  have h0 := Int.emod_nonneg n (show (12 : Int) ≠ 0 by decide)
  have : ∀ m : Nat, m < 12 → (tabP.getD m (0, 0)).1.natAbs ≤ 2 ∧ (tabP.getD m (0, 0)).2.natAbs ≤ 2 := by decide
  exact this _ (by omega)
theorem far_le (n : Int) (k : Nat) : ((far n).getD k 0).natAbs ≤ 2 := by
  have a := tw_le n
  have b := tw_le (n - 3)
  match k with
  | 0 => exact a.1
  | 1 => exact a.2
  | 2 => exact b.1
  | 3 => exact b.2
  | k + 4 =>
    show ((far n).getD (k + 4) 0).natAbs ≤ 2
    rw [getD_out (by show 4 ≤ k + 4; omega)]
    decide
def stV (f : Nat → Rat) : Nat → Rat
  | 0 => 0
  | i + 1 => stV f i + f i
structure StOk (ps : List (List Int)) (ts : List Nat) (z : Int) (i : Nat) (us : List (List Int)) : Prop where
  l : us.length = 4
  v : ∀ k x, pI (us.getD k []) x = stV (fun c => (((far (z * ((ts.getD c 0 : Nat) : Int))).getD k 0 : Int) : Rat) * pI (ps.getD c []) x) i
  n : ∀ k, n1 (us.getD k []) ≤ 2 * i * 2 ^ 3900
  s : ∀ k, (us.getD k []).length ≤ 100
  t : ∀ k, (us.getD k []).getLast? ≠ some 0

def pre_stir_of : List PyData → Prop := fun ds => ∃ (ps : List (List Int)) (ts : List Nat) (z : Int), ds = [.tuple (ps.map rowD), .tuple (ts.map fun t : Nat => .int (t : Int)), .int z] ∧ ps.length = ts.length ∧ ps.length ≤ 8 ∧ (∀ t ∈ ts, t < 12) ∧ ∀ p ∈ ps, n1 p < 2 ^ 3900 ∧ p.length ≤ 100
def post_stir_of : List PyData → PyData → Prop := fun ds d => ∃ (ps : List (List Int)) (ts : List Nat) (z : Int) (us : List (List Int)), ds = [.tuple (ps.map rowD), .tuple (ts.map fun t : Nat => .int (t : Int)), .int z] ∧ d = .tuple (us.map rowD) ∧ StOk ps ts z ps.length us
abbrev sp_stir_of (K : PySem.W.Frag) : Sp := SpP K pre_stir_of post_stir_of
theorem len_stir_of (K : PySem.W.Frag) (vs : List V) (H : Hp) (Q : VK) (E : XK) (h : sp_stir_of K vs H Q E) : vs.length = p_stir_of.length := len_P (n := 3) h fun ds hp => by
  obtain ⟨ps, ts, z, e, hl, h8, h12, hp⟩ := hp
  rw [e]; rfl
def t_stir_of (T : Tx K mg) : TS :=
  (tSeq (tAsg (tLst (tCons (tTup tNil) (tCons (tTup tNil) (tCons (tTup tNil) (tCons (tTup tNil) tNil))))) (gName 3))
  (tSeq (tFor (iZip2 K (tCons (tVar 0) (tCons (tVar 1) tNil))) (gTup K 2 (gCons (gName 4) (gCons (gName 5) gNil))) (tSeq (tAsg (tOp (rMulA K) (tVar 2) (tVar 5)) (gName 6))
  (tSeq (tAsg (tOp (rIx K) (tC (.ref T.k_DOUBLED_COSINES)) (tOp rModA (tVar 6) (tC (.int 12)))) (gName 7))
  (tSeq (tAsg (tOp (rIx K) (tC (.ref T.k_DOUBLED_COSINES)) (tOp rModA (tOp (rI0 fun i j => .int (i - j)) (tVar 6) (tC (.int 3))) (tC (.int 12)))) (gName 8))
  (tAsg (tLc (iZip2 K (tCons (tVar 3) (tCons (tOp (rAddA K) (tVar 7) (tVar 8)) tNil))) (gTwo K 9 10) tYes (tCall (sp_blend K) [] E0 (tCons (tVar 9) (tCons (tC (.int 1)) (tCons (tVar 4) (tCons (tVar 10) tNil))))) [9, 10]) (gName 3))))))
  (tRet (tCB (rTupleQ K) (tCons (tVar 3) tNil)))))
theorem pure_stir_of (T : Tx K mg) (vs : List V) (H : Hp) (Q : VK) (E : XK) (h : sp_stir_of K vs H Q E) : t_stir_of T { nx := fun _ H' => Q .non H', rt := Q } (L2.start N_stir_of vs) H := body_P h fun B ds hW hp => by
  obtain ⟨ps, ts, z, e, hl, h8, h12, hp⟩ := hp
  subst e
  unfold t_stir_of
  have tab : ∀ {L : List Addr} {Γ : List Sl} {G : List Hp} {n : Int} {te : TE} {q : PyData → Prop}, EvP K B G L Γ te (fun d => d = .int n) → q (.tuple [.int (tw n).1, .int (tw n).2]) → EvP K B G L Γ (tOp (rIx K) (tC (.ref T.k_DOUBLED_COSINES)) (tOp rModA te (tC (.int 12)))) q := fun {L Γ G n te q} hte hq => by
    refine ev_op (ev_ct T.v_DOUBLED_COSINES (ev_op (hte.mono fun d ed => ?_)))
    subst ed
    exact ev_int (ro_mod (i := n) (j := 12) (by decide) (rok_ixsT (tab_at _) hq))
  refine st_seq (st_asg (ev_lst (ea_cons (ev_tup (ea_nil ⟨by simp, ea_cons (ev_tup (ea_nil ⟨by simp, ea_cons (ev_tup (ea_nil ⟨by simp, ea_cons (ev_tup (ea_nil ⟨by simp, ea_nil ⟨by simp, ?_⟩⟩))⟩))⟩))⟩)))))
  have I0 : StOk ps ts z 0 [[], [], [], []] := by
    have g : ∀ k, ([[], [], [], []] : List (List Int)).getD k [] = [] := fun k => by
      match k with
      | 0 => rfl
      | 1 => rfl
      | 2 => rfl
      | 3 => rfl
      | k + 4 => rfl
    refine ⟨rfl, fun k x => by rw [g k]; rfl, fun k => by rw [g k]; exact Nat.zero_le _, fun k => by rw [g k]; exact Nat.zero_le _, fun k => by rw [g k]; simp⟩
  have e0 : [PyData.tuple [], .tuple [], .tuple [], .tuple []] = ([[], [], [], []] : List (List Int)).map rowD := rfl
  rw [e0]
  refine st_seq (st_forZ2 (ea_cons (ev_var rfl (ea_cons (ev_var rfl (ea_nil ⟨true, true, ps.map rowD, ts.map fun t : Nat => .int (t : Int), rfl, by rw [List.length_map, List.length_map]; exact hl, fun i L2 Γ2 => ∃ (us : List (List Int)) (s4 s5 s6 s7 s8 s9 s10 : Sl), L2 = [] ∧ Γ2 = [.d (.tuple (ps.map rowD)), .d (.tuple (ts.map fun t : Nat => .int (t : Int))), .d (.int z), .d (.list (us.map rowD)), s4, s5, s6, s7, s8, s9, s10] ∧ StOk ps ts z i us, ⟨_, _, _, _, _, _, _, _, rfl, rfl, I0⟩, ?_, ?_⟩))))))
  · rintro i d e L2 Γ2 g h1 h2 ⟨us, s4, s5, s6, s7, s8, s9, s10, rfl, rfl, I⟩
    obtain ⟨p, hpi, rfl⟩ := rows_get h1
    obtain ⟨t, ht, rfl⟩ : ∃ t, ts[i]? = some t ∧ e = .int ((t : Nat) : Int) := by
      rw [List.getElem?_map] at h2
      cases q : ts[i]? with
      | none => rw [q] at h2; cases h2
      | some t => rw [q] at h2; exact ⟨t, rfl, (Option.some.inj h2).symm⟩
    have il := (List.getElem?_eq_some_iff.mp hpi).1
    obtain ⟨np, lp⟩ := hp p (List.mem_of_getElem? hpi)
    have t12 := h12 t (List.mem_of_getElem? ht)
    have gp : ps.getD i [] = p := by rw [List.getD_eq_getElem?_getD, hpi]; rfl
    have gt : ts.getD i 0 = t := by rw [List.getD_eq_getElem?_getD, ht]; rfl
    refine st_seq (st_asg (ev_op (ev_var rfl (ev_var rfl (ro_mul (.inr ⟨by omega, by omega⟩) ?_)))))
    refine st_seq (st_asg (tab (ev_var rfl rfl) ?_))
    refine st_seq (st_asg (tab (ev_op (ev_var rfl (ev_int (rok_i0 rfl)))) ?_))
    have two : ∀ k, ((far (z * (t : Int))).getD k 0).natAbs ≤ 2 := far_le _
    have P0 : 0 < 2 ^ 3900 := Nat.two_pow_pos _
    refine st_asg (ev_new (en_lcZ2 (wipe2 9 10) (ea_cons (ev_var rfl (ea_cons (ev_op (ev_var rfl (ev_var rfl (ro_catT (by simp) (ea_nil ⟨false, true, us.map rowD, (far (z * (t : Int))).map .int, rfl, by rw [List.length_map, I.l]; rfl, by rw [List.length_map, I.l]; decide, fun k acc => acc = ((us.mapIdx fun k u => trim (comb 1 u ((far (z * (t : Int))).getD k 0) p)).take k).map rowD, ⟨rfl, fun k D x y acc hk hJ hin => ?_⟩, fun acc hJ => ?_⟩))))))))))
    · obtain ⟨hk1, hk2⟩ := hk
      obtain ⟨u, hu, rfl⟩ := rows_get hk1
      obtain ⟨f, hf, rfl⟩ : ∃ f, (far (z * (t : Int)))[k]? = some f ∧ y = .int f := map_get hk2
      have gf : (far (z * (t : Int))).getD k 0 = f := by rw [List.getD_eq_getElem?_getD, hf]; rfl
      have gu : us.getD k [] = u := by rw [List.getD_eq_getElem?_getD, hu]; rfl
      have nu := I.n k
      have lu := I.s k
      rw [gu] at nu lu
      have f2 := two k
      rw [gf] at f2
      have bu : n1 u < 2 ^ 4000 := by
        have : 2 * i * 2 ^ 3900 ≤ 16 * 2 ^ 3900 := Nat.mul_le_mul_right _ (by omega)
        have e4 : 16 * 2 ^ 3900 < 2 ^ 4000 := by
          rw [show 4000 = 100 + 3900 by rfl, Nat.pow_add]
          exact Nat.mul_lt_mul_of_pos_right (by decide) P0
        omega
      refine et_yes ⟨fun _ => ?_, fun z => nomatch z⟩
      have one : (1 : Int).natAbs < 2 ^ 4000 := Nat.one_lt_two_pow (by decide)
      refine ev_callP (ea_cons (ev_var rfl (ea_cons (ev_int (ea_cons (ev_var rfl (ea_cons (ev_var rfl (ea_nil ⟨⟨u, p, 1, f, rfl, by omega, by omega, one, pow_up (m := 2) (by omega) (by decide), n1_bd bu, n1_bd (pow_up np (by decide))⟩, fun r ⟨u', v', a', b', e, ed⟩ => ?_⟩)))))))))
      have e2 : u = u' ∧ 1 = a' ∧ p = v' ∧ f = b' := by
        simp only [List.cons.injEq, and_true, rowD, PyData.tuple.injEq, PyData.int.injEq] at e
        exact ⟨map_int_inj e.1, e.2.1, map_int_inj e.2.2.1, e.2.2.2⟩
      obtain ⟨rfl, rfl, rfl, rfl⟩ := e2
      subst ed
      have e3 : (us.mapIdx fun k u => trim (comb 1 u ((far (z * (t : Int))).getD k 0) p))[k]? = some (trim (comb 1 u f p)) := by
        rw [List.getElem?_mapIdx, hu, ← gf]
        rfl
      show acc ++ [_] = ((us.mapIdx fun k u => trim (comb 1 u ((far (z * (t : Int))).getD k 0) p)).take (k + 1)).map rowD
      rw [hJ, List.take_add_one, e3, List.map_append]
      rfl
    · rw [List.length_map, List.take_of_length_le (by rw [List.length_mapIdx]; exact Nat.le_refl _)] at hJ
      subst hJ
      refine ⟨_, .d (rowD p), .d (.int (t : Int)), _, _, _, s9, s10, rfl, rfl, ?_⟩
      have gm : ∀ k, (us.mapIdx fun k u => trim (comb 1 u ((far (z * (t : Int))).getD k 0) p)).getD k [] = if k < 4 then trim (comb 1 (us.getD k []) ((far (z * (t : Int))).getD k 0) p) else [] := fun k => by
        by_cases q : k < 4
        · have hk : us[k]? = some (us.getD k []) := by
            have : k < us.length := by have := I.l; omega
            rw [List.getD_eq_getElem?_getD, List.getElem?_eq_getElem this]
            rfl
          rw [if_pos q, List.getD_eq_getElem?_getD, List.getElem?_mapIdx, hk]
          rfl
        · have hk : us[k]? = none := List.getElem?_eq_none (by have := I.l; omega)
          rw [if_neg q, List.getD_eq_getElem?_getD, List.getElem?_mapIdx, hk]
          rfl
      refine ⟨by rw [List.length_mapIdx]; exact I.l, fun k x => ?_, fun k => ?_, fun k => ?_, fun k => ?_⟩
      · rw [gm k]
        show _ = stV _ i + (((far (z * ((ts.getD i 0 : Nat) : Int))).getD k 0 : Int) : Rat) * pI (ps.getD i []) x
        rw [← I.v k x, gp, gt]
        by_cases q : k < 4
        · rw [if_pos q, pI_trim, pI_comb]
          have z1 : ((1 : Int) : Rat) = 1 := rfl
          rw [z1, Rat.one_mul]
        · rw [if_neg q, getD_out (u := far (z * (t : Int))) (by show 4 ≤ k; omega), get_out (u := us) (by have := I.l; omega)]
          show (0 : Rat) = 0 + 0 * _
          grind
      · rw [gm k]
        by_cases q : k < 4
        · rw [if_pos q]
          have a1 := n1_trim (comb 1 (us.getD k []) ((far (z * (t : Int))).getD k 0) p)
          have a2 := n1_comb 1 (us.getD k []) ((far (z * (t : Int))).getD k 0) p
          have o : (1 : Int).natAbs = 1 := rfl
          rw [o, Nat.one_mul] at a2
          have a3 := Nat.mul_le_mul (two k) (Nat.le_of_lt np)
          have a4 := I.n k
          have e5 : 2 * (i + 1) * 2 ^ 3900 = 2 * i * 2 ^ 3900 + 2 * 2 ^ 3900 := by rw [← Nat.add_mul]; congr 1
          omega
        · rw [if_neg q]
          exact Nat.zero_le _
      · rw [gm k]
        by_cases q : k < 4
        · rw [if_pos q]
          have a1 := trim_len (comb 1 (us.getD k []) ((far (z * (t : Int))).getD k 0) p)
          rw [comb_len] at a1
          have := I.s k
          omega
        · rw [if_neg q]
          exact Nat.zero_le _
      · rw [gm k]
        by_cases q : k < 4
        · rw [if_pos q]
          exact trim_last _
        · rw [if_neg q]
          simp
  · rintro L2 Γ2 ⟨us, s4, s5, s6, s7, s8, s9, s10, rfl, rfl, I⟩
    rw [List.length_map] at I
    exact st_ret (ev_cb (ea_cons (ev_var rfl (ea_nil (co_tupL ⟨ps, ts, z, us, rfl, rfl, I⟩)))))
theorem ok_stir_of (T : Tx K mg) : FnOk P w K mg base CX0 3 T.a_stir_of T.d_stir_of p_stir_of (sp_stir_of K) := by
  refine T.F_stir_of.ok sc_stir_of (fun vs H Q E h => len_stir_of K vs H Q E h) (fun cdv A outer s H vs Q E hr h => ?_)
  exact ⟨t_stir_of T, (pss_cons (ps_set (i := 3) sc_stir_of.nd rfl (Or.inl rfl) (pe_lst (pa_cons (pe_tup pa_nil) (pa_cons (pe_tup pa_nil) (pa_cons (pe_tup pa_nil) (pa_cons (pe_tup pa_nil) pa_nil))))))
  (pss_cons (ps_for PassesOwn.never rfl (pi_zip2 (by rfl) T.n_zip (pa_cons (pv 0) (pa_cons (pv 1) pa_nil))) (pg_tup (by rfl) (pgs_cons (pg_name (i := 4) sc_stir_of.nd rfl (Or.inr rfl)) (pgs_cons (pg_name (i := 5) sc_stir_of.nd rfl (Or.inl rfl)) pgs_nil))) (pss_cons (ps_set (i := 6) sc_stir_of.nd rfl (Or.inl rfl) (pe_op op_mulA (pv 2) (pv 5)))
  (pss_cons (ps_set (i := 7) sc_stir_of.nd rfl (Or.inl rfl) (pe_ix ix_seq (pe_glob rfl T.c_DOUBLED_COSINES rfl) (pe_op op_modA (pv 6) (pe_glob rfl T.c_TWELFTHS ⟨_, rfl⟩)) (fun _ _ => rfl)))
  (pss_cons (ps_set (i := 8) sc_stir_of.nd rfl (Or.inl rfl) (pe_ix ix_seq (pe_glob rfl T.c_DOUBLED_COSINES rfl) (pe_op op_modA (pe_op op_sub (pv 6) (pe_glob rfl T.c_QUARTER ⟨_, rfl⟩)) (pe_glob rfl T.c_TWELFTHS ⟨_, rfl⟩)) (fun _ _ => rfl)))
  (pss_one (ps_setLc (i := 3) (own := [("part", 9), ("times", 10)]) (by rfl) sc_stir_of.nd rfl rfl (sw_true rfl rfl rfl (by decide +kernel)) (pi_zip2 (by rfl) T.n_zip (pa_cons (pv 3) (pa_cons (pe_op op_addA (pv 7) (pv 8)) pa_nil))) (blkOk_by (own := [("part", 9), ("times", 10)]) (N := N_stir_of) (sc := defScope s_stir_of) (by decide +kernel)) (fun _ _ _ _ _ => pg_tup (by rfl) (pgs_cons (pg_name (i := 9) sc_stir_of.nd rfl (Or.inl rfl)) (pgs_cons (pg_name (i := 10) sc_stir_of.nd rfl (Or.inl rfl)) pgs_nil))) (fun _ _ _ _ _ => pts_nil) (fun _ _ _ _ _ => (pe_call (ok_blend T) (hr.mono (by decide)) rfl T.g_blend T.F_blend.kp (b_blend T) .nil pass0 (pa_cons (pv 9) (pa_cons pe_int (pa_cons (pv 4) (pa_cons (pv 10) pa_nil))))))))))))
  (pss_one (ps_ret (pe_callTy call_tuple_of (by rfl) T.n_tuple (by decide +kernel) (pa_cons (pv 3) pa_nil)))))), pure_stir_of T vs H Q E h⟩
/-! ### is_crank -/

def pre_is_crank : List PyData → Prop := fun ds => ∃ (dd ss : List Fr) (c : Ck), ds = [lineD dd ss, ckD c] ∧ c.i < dd.length ∧ c.t < 12 ∧ FOk c.w ∧ c.w.1 ≠ 0
def post_is_crank : List PyData → PyData → Prop := fun ds d => d = .bool true
abbrev sp_is_crank (K : PySem.W.Frag) : Sp := SpP K pre_is_crank post_is_crank
theorem len_is_crank (K : PySem.W.Frag) (vs : List V) (H : Hp) (Q : VK) (E : XK) (h : sp_is_crank K vs H Q E) : vs.length = p_is_crank.length := len_P (n := 2) h fun ds hp => by
  obtain ⟨dd, ss, c, e, hi, ht, fw, w0⟩ := hp
  rw [e]; rfl
def t_is_crank (K : PySem.W.Frag) : TS :=
  (tSeq (tIfS (tOr (tNot (tB (tCB (rIsi K) (tCons (tVar 1) (tCons (tC (.ty "tuple")) tNil))))) (tTest (tOp rNe (tCB (rLenQ K) (tCons (tVar 1) tNil)) (tC (.int 3))))) (tRet (tC (.bl false))) tNext)
  (tSeq (tAsg (tVar 1) (gTup K 3 (gCons (gName 2) (gCons (gName 3) (gCons (gName 4) gNil)))))
  (tSeq (tIfS (tOr (tNot (tB (tCall (sp_is_index K) [] E0 (tCons (tVar 2) (tCons (tCB (rLenQ K) (tCons (tOp (rIx K) (tVar 0) (tC (.int 0))) tNil)) tNil))))) (tNot (tB (tCall (sp_is_index K) [] E0 (tCons (tVar 3) (tCons (tC (.int 12)) tNil)))))) (tRet (tC (.bl false))) tNext)
  (tRet (tAndV (tCall (sp_is_fraction K) [] E0 (tCons (tVar 4) tNil)) (tOp rNe (tOp (rIx K) (tVar 4) (tC (.int 0))) (tC (.int 0))))))))
theorem pure_is_crank (K : PySem.W.Frag) (vs : List V) (H : Hp) (Q : VK) (E : XK) (h : sp_is_crank K vs H Q E) : t_is_crank K { nx := fun _ H' => Q .non H', rt := Q } (L2.start N_is_crank vs) H := body_P h fun B ds hW hp => by
  obtain ⟨dd, ss, c, e, hi, ht, fw, w0⟩ := hp
  subst e
  unfold t_is_crank
  refine st_seq (st_if (et_or (et_not (et_B (ev_isiTup (ev_var rfl ⟨_, rfl, fun hb => ?_, (fun z => nomatch z)⟩))))))
  refine et_test (ev_op (ev_cb (ea_cons (ev_var rfl (ea_nil (co_lenT (ev_int (rok_neI ⟨_, rfl, (fun hb => absurd hb (by simp)), fun _ => st_next ?_⟩))))))))
  refine st_seq (st_unpack (ev_var rfl ⟨_, rfl, rfl, tg_cons (tg_cons (tg_cons (tg_nil ?_)))⟩))
  refine st_seq (st_if (et_or (et_not (et_B (ev_callP (ea_cons (ev_var rfl (ea_cons (ev_cb (ea_cons (ev_op (ev_var rfl (ev_int (rok_ixsT (d := .tuple (dd.map frD)) rfl (ea_nil (co_lenT (ea_nil ⟨⟨_, _, rfl⟩, fun r ⟨a, b, e, ed⟩ => ?_⟩)))))))))))))))))
  simp only [List.cons.injEq, PyData.int.injEq, and_true] at e
  obtain ⟨rfl, rfl⟩ := e
  rw [List.length_map, decide_eq_true (show (0 : Int) ≤ (c.i : Int) by omega), decide_eq_true (show (c.i : Int) < (dd.length : Int) by omega)] at ed
  refine ⟨_, ed, fun _ => ?_, (fun z => nomatch z)⟩
  refine et_not (et_B (ev_callP (ea_cons (ev_var rfl (ea_cons (ev_int (ea_nil ⟨⟨_, _, rfl⟩, fun r ⟨a, b, e, ed⟩ => ?_⟩)))))))
  simp only [List.cons.injEq, PyData.int.injEq, and_true] at e
  obtain ⟨rfl, rfl⟩ := e
  rw [decide_eq_true (show (0 : Int) ≤ (c.t : Int) by omega), decide_eq_true (show (c.t : Int) < 12 by omega)] at ed
  refine ⟨_, ed, (fun z => nomatch z), fun _ => st_next ?_⟩
  refine st_ret (ev_andV (ev_callP (ea_cons (ev_var rfl (ea_nil ⟨⟨_, rfl⟩, fun r ⟨v, e, ed⟩ => ?_⟩)))))
  cases e
  rw [frD_is fw] at ed
  refine ⟨_, ed, fun _ => ?_, (fun z => nomatch z)⟩
  refine ev_op (ev_op (ev_var rfl (ev_int (rok_ixsT (d := .int c.w.1) rfl (ev_int (rok_neI ?_))))))
  show PyData.bool (!decide (c.w.1 = 0)) = _
  rw [decide_eq_false w0]
  rfl
theorem ok_is_crank (T : Tx K mg) : FnOk P w K mg base CX0 3 T.a_is_crank T.d_is_crank p_is_crank (sp_is_crank K) := by
  refine T.F_is_crank.ok sc_is_crank (fun vs H Q E h => len_is_crank K vs H Q E h) (fun cdv A outer s H vs Q E hr h => ?_)
  exact ⟨t_is_crank K, (pss_cons (ps_if (PW.pt (pw_or (pt_not (pt_val (pe_callB call_isi (by rfl) T.n_isinstance (by decide +kernel) (pa_cons (pv 1) (pa_cons (pe_bltn (v := .ty "tuple") (by rfl) T.n_tuple (by decide +kernel) rfl) pa_nil))))) (pw_or1 (pt_cmpR op_ne (pe_callB call_len_seq (by rfl) T.n_len (by decide +kernel) (pa_cons (pv 1) pa_nil)) pe_int (nomark _))))) (pss_one (ps_ret pe_bl)) pss_nil)
  (pss_cons (ps_asg (pv 1) (pg_tup (by rfl) (pgs_cons (pg_name (i := 2) sc_is_crank.nd rfl (Or.inl rfl)) (pgs_cons (pg_name (i := 3) sc_is_crank.nd rfl (Or.inl rfl)) (pgs_cons (pg_name (i := 4) sc_is_crank.nd rfl (Or.inl rfl)) pgs_nil)))))
  (pss_cons (ps_if (PW.pt (pw_or (pt_not (pt_val (pe_call (ok_is_index T) (hr.mono (by decide)) rfl T.g_is_index T.F_is_index.kp (b_is_index T) .nil pass0 (pa_cons (pv 2) (pa_cons (pe_callB call_len_seq (by rfl) T.n_len (by decide +kernel) (pa_cons (pe_ix ix_seq (pv 0) pe_int (fun _ _ => rfl)) pa_nil)) pa_nil))))) (pw_or1 (pt_not (pt_val (pe_call (ok_is_index T) (hr.mono (by decide)) rfl T.g_is_index T.F_is_index.kp (b_is_index T) .nil pass0 (pa_cons (pv 3) (pa_cons (pe_glob rfl T.c_TWELFTHS ⟨_, rfl⟩) pa_nil)))))))) (pss_one (ps_ret pe_bl)) pss_nil)
  (pss_one (ps_ret (pe_and (pe_call (ok_is_fraction T) (hr.mono (by decide)) rfl T.g_is_fraction T.F_is_fraction.kp (b_is_fraction T) .nil pass0 (pa_cons (pv 4) pa_nil)) (pe_one (pe_cmpR op_ne (pe_ix ix_seq (pv 4) pe_int (fun _ _ => rfl)) pe_int (nomark _))))))))), pure_is_crank K vs H Q E h⟩
/-! ### is_engine -/

def pre_is_engine : List PyData → Prop := fun ds => ∃ (dd ss : List Fr) (cs : List Ck), ds = [engD dd ss cs] ∧ Eng dd ss cs
def post_is_engine : List PyData → PyData → Prop := fun ds d => d = .bool true
abbrev sp_is_engine (K : PySem.W.Frag) : Sp := SpP K pre_is_engine post_is_engine
theorem len_is_engine (K : PySem.W.Frag) (vs : List V) (H : Hp) (Q : VK) (E : XK) (h : sp_is_engine K vs H Q E) : vs.length = p_is_engine.length := len_P (n := 1) h fun ds hp => by
  obtain ⟨dd, ss, cs, e, h⟩ := hp
  rw [e]; rfl
def t_is_engine (K : PySem.W.Frag) : TS :=
  (tSeq (tIfS (tOr (tNot (tB (tCB (rIsi K) (tCons (tVar 0) (tCons (tC (.ty "tuple")) tNil))))) (tOr (tTest (tOp rNe (tCB (rLenQ K) (tCons (tVar 0) tNil)) (tC (.int 2)))) (tNot (tB (tCall (sp_is_line K) [] E0 (tCons (tOp (rIx K) (tVar 0) (tC (.int 0))) tNil)))))) (tRet (tC (.bl false))) tNext)
  (tSeq (tAsg (tVar 0) (gTup K 2 (gCons (gName 1) (gCons (gName 2) gNil))))
  (tSeq (tIfS (tOr (tNot (tB (tCB (rIsi K) (tCons (tVar 2) (tCons (tC (.ty "tuple")) tNil))))) (tNot (tTest (tChain (rI0 fun i j => .bl (decide (i ≤ j))) (rI0 fun i j => .bl (decide (i ≤ j))) (tC (.int 1)) (tCB (rLenQ K) (tCons (tVar 2) tNil)) (tC (.int 8)))))) (tRet (tC (.bl false))) tNext)
  (tRet (tCB (rAll K) (tCons (tLc (iTup K (tVar 2)) (gName 3) tYes (tCall (sp_is_crank K) [] E0 (tCons (tVar 1) (tCons (tVar 3) tNil))) [3]) tNil))))))
theorem pure_is_engine (K : PySem.W.Frag) (vs : List V) (H : Hp) (Q : VK) (E : XK) (h : sp_is_engine K vs H Q E) : t_is_engine K { nx := fun _ H' => Q .non H', rt := Q } (L2.start N_is_engine vs) H := body_P h fun B ds hW hp => by
  obtain ⟨dd, ss, cs, e, h⟩ := hp
  subst e
  unfold t_is_engine
  have c1 := h.c1
  have c8 := h.c8
  refine st_seq (st_if (et_or (et_not (et_B (ev_isiTup (ev_var rfl ⟨_, rfl, fun hb => ?_, (fun z => nomatch z)⟩))))))
  refine et_or (et_test (ev_op (ev_cb (ea_cons (ev_var rfl (ea_nil (co_lenT (ev_int (rok_neI ⟨_, rfl, fun _ => ?_, (fun hb => absurd hb (by simp))⟩)))))))))
  refine et_not (et_B (ev_callP (ea_cons (ev_op (ev_var rfl (ev_int (rok_ixsT (d := lineD dd ss) rfl (ea_nil ⟨⟨_, rfl⟩, fun r ⟨v, e, ed⟩ => ?_⟩))))))))
  cases e
  rw [lineD_is h.ln] at ed
  refine ⟨_, ed, (fun z => nomatch z), fun _ => st_next ?_⟩
  refine st_seq (st_unpack (ev_var rfl ⟨_, rfl, rfl, tg_cons (tg_cons (tg_nil ?_))⟩))
  refine st_seq (st_if (et_or (et_not (et_B (ev_isiTup (ev_var rfl ⟨_, rfl, fun hb => ?_, (fun z => nomatch z)⟩))))))
  refine et_not (et_test (ev_chain (ev_int (ev_cb (ea_cons (ev_var rfl (ea_nil (co_lenT (rok_b0 ⟨_, rfl, fun _ => ev_int (rok_b0 ⟨_, rfl, fun hb => ?_, fun hb => st_next ?_⟩), fun hb => ?_⟩)))))))))
  · rw [List.length_map] at hb
    simp at hb
    omega
  · refine st_ret (ev_cb (ea_cons (ev_new (en_lcT (wipe1 3) (ev_var rfl ⟨_, rfl, by rw [List.length_map]; omega, fun i acc => acc = (List.replicate i true).map PyData.bool, ⟨rfl, fun i D d' acc hi hJ hin => ?_⟩, fun acc hJ => ?_⟩)))))
    · obtain ⟨c, hc, rfl⟩ : ∃ c, cs[i]? = some c ∧ d' = ckD c := by
        have hi : (cs.map ckD)[i]? = some d' := hi
        rw [List.getElem?_map] at hi
        cases e : cs[i]? with
        | none => rw [e] at hi; cases hi
        | some c => rw [e] at hi; exact ⟨c, rfl, (Option.some.inj hi).symm⟩
      have mem := List.mem_of_getElem? hc
      refine et_yes ⟨fun _ => ?_, fun z => nomatch z⟩
      refine ev_callP (ea_cons (ev_var rfl (ea_cons (ev_var rfl (ea_nil ⟨⟨dd, ss, c, rfl, h.di c mem, h.tw c mem, h.ok c mem, h.nz c mem⟩, fun r er => ?_⟩)))))
      have er : r = .bool true := er
      subst er
      show acc ++ [PyData.bool true] = (List.replicate (i + 1) true).map PyData.bool
      rw [hJ, List.replicate_succ', List.map_append]
      rfl
    · refine ea_nil ?_
      subst hJ
      refine cok_all ?_
      rw [show (List.replicate _ true).all id = true by simp]
      rfl
  · rw [List.length_map] at hb
    have := of_decide_eq_false hb
    omega
theorem ok_is_engine (T : Tx K mg) : FnOk P w K mg base CX0 6 T.a_is_engine T.d_is_engine p_is_engine (sp_is_engine K) := by
  refine T.F_is_engine.ok sc_is_engine (fun vs H Q E h => len_is_engine K vs H Q E h) (fun cdv A outer s H vs Q E hr h => ?_)
  exact ⟨t_is_engine K, (pss_cons (ps_if (PW.pt (pw_or (pt_not (pt_val (pe_callB call_isi (by rfl) T.n_isinstance (by decide +kernel) (pa_cons (pv 0) (pa_cons (pe_bltn (v := .ty "tuple") (by rfl) T.n_tuple (by decide +kernel) rfl) pa_nil))))) (pw_or (pt_cmpR op_ne (pe_callB call_len_seq (by rfl) T.n_len (by decide +kernel) (pa_cons (pv 0) pa_nil)) pe_int (nomark _)) (pw_or1 (pt_not (pt_val (pe_call (ok_is_line T) (hr.mono (by decide)) rfl T.g_is_line T.F_is_line.kp (b_is_line T) .nil pass0 (pa_cons (pe_ix ix_seq (pv 0) pe_int (fun _ _ => rfl)) pa_nil)))))))) (pss_one (ps_ret pe_bl)) pss_nil)
  (pss_cons (ps_asg (pv 0) (pg_tup (by rfl) (pgs_cons (pg_name (i := 1) sc_is_engine.nd rfl (Or.inr rfl)) (pgs_cons (pg_name (i := 2) sc_is_engine.nd rfl (Or.inl rfl)) pgs_nil))))
  (pss_cons (ps_if (PW.pt (pw_or (pt_not (pt_val (pe_callB call_isi (by rfl) T.n_isinstance (by decide +kernel) (pa_cons (pv 2) (pa_cons (pe_bltn (v := .ty "tuple") (by rfl) T.n_tuple (by decide +kernel) rfl) pa_nil))))) (pw_or1 (pt_not (pt_chain op_le op_le pe_int (pe_callB call_len_seq (by rfl) T.n_len (by decide +kernel) (pa_cons (pv 2) pa_nil)) (pe_glob rfl T.c_MOST_CRANKS ⟨_, rfl⟩)))))) (pss_one (ps_ret pe_bl)) pss_nil)
  (pss_one (ps_ret (pe_callB (cr_all rfl) (by rfl) T.n_all (by decide +kernel) (pa_cons (pe_lc (own := [("crank", 3)]) (by rfl) sc_is_engine.nd (pi_tup (pv 2)) (blkOk_by (own := [("crank", 3)]) (N := N_is_engine) (sc := defScope s_is_engine) (by decide +kernel)) (fun _ _ _ _ _ => pg_name (i := 3) sc_is_engine.nd rfl (Or.inl rfl)) (fun _ _ _ _ _ => pts_nil) (fun _ _ _ _ _ => (pe_call (ok_is_crank T) (hr.mono (by decide)) rfl T.g_is_crank T.F_is_crank.kp (b_is_crank T) .nil pass0 (pa_cons (pv 1) (pa_cons (pv 3) pa_nil))))) pa_nil))))))), pure_is_engine K vs H Q E h⟩
/-! ### check_engine -/

def pre_check_engine : List PyData → Prop := fun ds => ∃ (dd ss : List Fr) (cs : List Ck), ds = [engD dd ss cs] ∧ Eng dd ss cs
def post_check_engine : List PyData → PyData → Prop := fun ds d => d = .none
abbrev sp_check_engine (K : PySem.W.Frag) : Sp := SpP K pre_check_engine post_check_engine
theorem len_check_engine (K : PySem.W.Frag) (vs : List V) (H : Hp) (Q : VK) (E : XK) (h : sp_check_engine K vs H Q E) : vs.length = p_check_engine.length := len_P (n := 1) h fun ds hp => by
  obtain ⟨dd, ss, cs, e, h⟩ := hp
  rw [e]; rfl
def t_check_engine (K : PySem.W.Frag) : TS :=
  (tIfS (tNot (tB (tCall (sp_is_engine K) [] E0 (tCons (tVar 0) tNil)))) tNever tNext)
theorem pure_check_engine (K : PySem.W.Frag) (vs : List V) (H : Hp) (Q : VK) (E : XK) (h : sp_check_engine K vs H Q E) : t_check_engine K { nx := fun _ H' => Q .non H', rt := Q } (L2.start N_check_engine vs) H := body_P h fun B ds hW hp => by
  obtain ⟨dd, ss, cs, e, h⟩ := hp
  subst e
  unfold t_check_engine
  refine st_if (et_not (et_B (ev_callP (ea_cons (ev_var rfl (ea_nil ⟨⟨dd, ss, cs, rfl, h⟩, fun r er => ?_⟩))))))
  exact ⟨_, er, (fun z => nomatch z), fun _ => st_next rfl⟩
theorem ok_check_engine (T : Tx K mg) : FnOk P w K mg base CX0 7 T.a_check_engine T.d_check_engine p_check_engine (sp_check_engine K) := by
  refine T.F_check_engine.ok sc_check_engine (fun vs H Q E h => len_check_engine K vs H Q E h) (fun cdv A outer s H vs Q E hr h => ?_)
  exact ⟨t_check_engine K, (pss_one (ps_if (pt_not (pt_val (pe_call (ok_is_engine T) (hr.mono (by decide)) rfl T.g_is_engine T.F_is_engine.kp (b_is_engine T) .nil pass0 (pa_cons (pv 0) pa_nil)))) (pss_one ps_never) pss_nil)), pure_check_engine K vs H Q E h⟩
/-! ### check_order -/

def pre_check_order : List PyData → Prop := fun ds => ∃ z : Int, ds = [.int z]
def post_check_order : List PyData → PyData → Prop := fun ds d => d = .none
abbrev sp_check_order (K : PySem.W.Frag) : Sp := SpP K pre_check_order post_check_order
theorem len_check_order (K : PySem.W.Frag) (vs : List V) (H : Hp) (Q : VK) (E : XK) (h : sp_check_order K vs H Q E) : vs.length = p_check_order.length := len_P (n := 1) h fun ds hp => by
  obtain ⟨z, e⟩ := hp
  rw [e]; rfl
def t_check_order (K : PySem.W.Frag) : TS :=
  (tIfS (tNot (tB (tCall (sp_is_whole K) [] E0 (tCons (tVar 0) tNil)))) tNever tNext)
theorem pure_check_order (K : PySem.W.Frag) (vs : List V) (H : Hp) (Q : VK) (E : XK) (h : sp_check_order K vs H Q E) : t_check_order K { nx := fun _ H' => Q .non H', rt := Q } (L2.start N_check_order vs) H := body_P h fun B ds hW hp => by
  obtain ⟨z, e⟩ := hp
  subst e
  unfold t_check_order
  refine st_if (et_not (et_B (ev_callP (ea_cons (ev_var rfl (ea_nil ⟨⟨_, rfl⟩, fun r ⟨v, e, er⟩ => ?_⟩))))))
  cases e
  exact ⟨_, er, (fun z => nomatch z), fun _ => st_next rfl⟩
theorem ok_check_order (T : Tx K mg) : FnOk P w K mg base CX0 2 T.a_check_order T.d_check_order p_check_order (sp_check_order K) := by
  refine T.F_check_order.ok sc_check_order (fun vs H Q E h => len_check_order K vs H Q E h) (fun cdv A outer s H vs Q E hr h => ?_)
  exact ⟨t_check_order K, (pss_one (ps_if (pt_not (pt_val (pe_call (ok_is_whole T) (hr.mono (by decide)) rfl T.g_is_whole T.F_is_whole.kp (b_is_whole T) .nil pass0 (pa_cons (pv 0) pa_nil)))) (pss_one ps_never) pss_nil)), pure_check_order K vs H Q E h⟩
/-! ### stir_by -/
theorem map_nat_inj : ∀ {u v : List Nat}, (u.map fun t : Nat => PyData.int (t : Int)) = (v.map fun t : Nat => .int (t : Int)) → u = v
  | [], [], _ => rfl
  | [], _ :: _, h => by cases h
  | _ :: _, [], h => by cases h
  | a :: u, b :: v, h => by
    simp only [List.map_cons, List.cons.injEq, PyData.int.injEq] at h
    have e : a = b := by omega
    rw [e, map_nat_inj h.2]
def pre_stir_by : List PyData → Prop := fun ds => ∃ (dd ss : List Fr) (cs : List Ck) (z : Int), ds = [engD dd ss cs, .int z] ∧ Eng dd ss cs
def post_stir_by : List PyData → PyData → Prop := fun ds d => ∃ (dd ss : List Fr) (cs : List Ck) (z : Int) (ps us : List (List Int)), ds = [engD dd ss cs, .int z] ∧ PuOk dd ss cs ps ∧ StOk ps (cs.map Ck.t) z ps.length us ∧ d = .tuple (us.map rowD)
abbrev sp_stir_by (K : PySem.W.Frag) : Sp := SpP K pre_stir_by post_stir_by
theorem len_stir_by (K : PySem.W.Frag) (vs : List V) (H : Hp) (Q : VK) (E : XK) (h : sp_stir_by K vs H Q E) : vs.length = p_stir_by.length := len_P (n := 2) h fun ds hp => by
  obtain ⟨dd, ss, cs, z, e, h⟩ := hp
  rw [e]; rfl
def t_stir_by (K : PySem.W.Frag) : TS :=
  (tRet (tCall (sp_stir_of K) [] E0 (tCons (tCall (sp_pushes_of K) [] E0 (tCons (tVar 0) tNil)) (tCons (tCall (sp_twelfths_of K) [] E0 (tCons (tVar 0) tNil)) (tCons (tVar 1) tNil)))))
theorem pure_stir_by (K : PySem.W.Frag) (vs : List V) (H : Hp) (Q : VK) (E : XK) (h : sp_stir_by K vs H Q E) : t_stir_by K { nx := fun _ H' => Q .non H', rt := Q } (L2.start N_stir_by vs) H := body_P h fun B ds hW hp => by
  obtain ⟨dd, ss, cs, z, e, h⟩ := hp
  subst e
  unfold t_stir_by
  have c8 := h.c8
  refine st_ret (ev_callP (ea_cons (ev_callP (ea_cons (ev_var rfl (ea_nil ⟨⟨dd, ss, cs, rfl, h⟩, fun d ⟨dd', ss', cs', ps, e, ed, PU⟩ => ?_⟩))))))
  obtain ⟨rfl, rfl, rfl⟩ := engD_inj (List.cons.inj e).1
  subst ed
  refine ea_cons (ev_callP (ea_cons (ev_var rfl (ea_nil ⟨⟨dd, ss, cs, rfl, h⟩, fun d ⟨dd', ss', cs', e, ed⟩ => ?_⟩))))
  obtain ⟨rfl, rfl, rfl⟩ := engD_inj (List.cons.inj e).1
  subst ed
  have em : (cs.map fun c => PyData.int (c.t : Int)) = (cs.map Ck.t).map fun t : Nat => .int (t : Int) := by rw [List.map_map]; rfl
  rw [em]
  refine ea_cons (ev_var rfl (ea_nil ⟨⟨ps, cs.map Ck.t, z, rfl, by rw [List.length_map]; exact PU.l, by rw [PU.l]; exact c8, fun t ht => ?_, PU.b⟩, fun d ⟨ps', ts', z', us, e, ed, ST⟩ => ?_⟩))
  · obtain ⟨c, hc, rfl⟩ := List.mem_map.mp ht
    exact h.tw c hc
  · have e2 : ps = ps' ∧ cs.map Ck.t = ts' ∧ z = z' := by
      simp only [List.cons.injEq, and_true, PyData.tuple.injEq, PyData.int.injEq] at e
      refine ⟨map_row_inj e.1, map_nat_inj e.2.1, e.2.2⟩
    obtain ⟨rfl, rfl, rfl⟩ := e2
    exact ⟨dd, ss, cs, z, ps, us, rfl, PU, ST, ed⟩
theorem ok_stir_by (T : Tx K mg) : FnOk P w K mg base CX0 5 T.a_stir_by T.d_stir_by p_stir_by (sp_stir_by K) := by
  refine T.F_stir_by.ok sc_stir_by (fun vs H Q E h => len_stir_by K vs H Q E h) (fun cdv A outer s H vs Q E hr h => ?_)
  exact ⟨t_stir_by K, (pss_one (ps_ret (pe_call (ok_stir_of T) (hr.mono (by decide)) rfl T.g_stir_of T.F_stir_of.kp (b_stir_of T) .nil pass0 (pa_cons (pe_call (ok_pushes_of T) (hr.mono (by decide)) rfl T.g_pushes_of T.F_pushes_of.kp (b_pushes_of T) .nil pass0 (pa_cons (pv 0) pa_nil)) (pa_cons (pe_call (ok_twelfths_of T) (hr.mono (by decide)) rfl T.g_twelfths_of T.F_twelfths_of.kp (b_twelfths_of T) .nil pass0 (pa_cons (pv 0) pa_nil)) (pa_cons (pv 1) pa_nil)))))), pure_stir_by K vs H Q E h⟩
/-! ### stir_parts -/

def pre_stir_parts : List PyData → Prop := fun ds => ∃ (dd ss : List Fr) (cs : List Ck) (z : Int), ds = [engD dd ss cs, .int z] ∧ Eng dd ss cs
def post_stir_parts : List PyData → PyData → Prop := fun ds d => ∃ (dd ss : List Fr) (cs : List Ck) (z : Int) (ps us : List (List Int)), ds = [engD dd ss cs, .int z] ∧ PuOk dd ss cs ps ∧ StOk ps (cs.map Ck.t) z ps.length us ∧ d = .tuple ((thinA us).map rowD)
abbrev sp_stir_parts (K : PySem.W.Frag) : Sp := SpP K pre_stir_parts post_stir_parts
theorem len_stir_parts (K : PySem.W.Frag) (vs : List V) (H : Hp) (Q : VK) (E : XK) (h : sp_stir_parts K vs H Q E) : vs.length = p_stir_parts.length := len_P (n := 2) h fun ds hp => by
  obtain ⟨dd, ss, cs, z, e, h⟩ := hp
  rw [e]; rfl
def t_stir_parts (K : PySem.W.Frag) : TS :=
  (tSeq (tDrop (tCall (sp_check_engine K) [] E0 (tCons (tVar 0) tNil)))
  (tSeq (tDrop (tCall (sp_check_order K) [] E0 (tCons (tVar 1) tNil)))
  (tRet (tCall (sp_thinned_all K) [] E0 (tCons (tCall (sp_stir_by K) [] E0 (tCons (tVar 0) (tCons (tVar 1) tNil))) tNil)))))
theorem pure_stir_parts (K : PySem.W.Frag) (vs : List V) (H : Hp) (Q : VK) (E : XK) (h : sp_stir_parts K vs H Q E) : t_stir_parts K { nx := fun _ H' => Q .non H', rt := Q } (L2.start N_stir_parts vs) H := body_P h fun B ds hW hp => by
  obtain ⟨dd, ss, cs, z, e, h⟩ := hp
  subst e
  unfold t_stir_parts
  have c8 := h.c8
  refine st_seq (st_drop (ev_callP (ea_cons (ev_var rfl (ea_nil ⟨⟨dd, ss, cs, rfl, h⟩, fun d ed => ?_⟩)))))
  refine st_seq (st_drop (ev_callP (ea_cons (ev_var rfl (ea_nil ⟨⟨z, rfl⟩, fun d ed => ?_⟩)))))
  refine st_ret (ev_callP (ea_cons (ev_callP (ea_cons (ev_var rfl (ea_cons (ev_var rfl (ea_nil ⟨⟨dd, ss, cs, z, rfl, h⟩, fun d ⟨dd', ss', cs', z', ps, us, e, PU, ST, ed⟩ => ?_⟩))))))))
  have e2 := (List.cons.inj (List.cons.inj e).2).1
  obtain ⟨rfl, rfl, rfl⟩ := engD_inj (List.cons.inj e).1
  obtain rfl : z = z' := PyData.int.inj e2
  subst ed
  have mem : ∀ u ∈ us, ∃ k, us.getD k [] = u := fun u hu => by
    obtain ⟨k, hk, e⟩ := List.getElem_of_mem hu
    exact ⟨k, by rw [List.getD_eq_getElem?_getD, List.getElem?_eq_getElem hk, ← e]; rfl⟩
  have rw_ : Rws us := by
    refine ⟨by rw [ST.l]; decide, fun u hu => ?_, ?_⟩
    · obtain ⟨k, rfl⟩ := mem u hu
      refine ⟨ST.s k, n1_bd ?_⟩
      have a := ST.n k
      have lp : ps.length ≤ 8 := by rw [PU.l]; exact c8
      have : 2 * ps.length * 2 ^ 3900 ≤ 16 * 2 ^ 3900 := Nat.mul_le_mul_right _ (by omega)
      have e4 : 16 * 2 ^ 3900 < 2 ^ 4000 := by
        rw [show 4000 = 100 + 3900 by rfl, Nat.pow_add]
        exact Nat.mul_lt_mul_of_pos_right (by decide) (Nat.two_pow_pos _)
      omega
    · by_cases q : ∀ u ∈ us, u = []
      · exact .inl q
      · refine .inr (Classical.byContradiction fun no => q fun u hu => ?_)
        obtain ⟨k, rfl⟩ := mem u hu
        cases el : (us.getD k []).getLast? with
        | none => exact List.getLast?_eq_none_iff.mp el
        | some y =>
          exfalso
          have y0 : y ≠ 0 := fun z => ST.t k (by rw [el, z])
          exact no ⟨_, hu, y, List.mem_of_getLast? el, y0⟩
  refine ea_nil ⟨⟨true, us, rfl, rw_⟩, fun d ⟨b, us', e, ed⟩ => ?_⟩
  have eu : us = us' := by
    have e := (List.cons.inj e).1
    cases b with
    | true => exact map_row_inj (PyData.tuple.inj e)
    | false => cases e
  subst eu
  exact ⟨dd, ss, cs, z, ps, us, rfl, PU, ST, ed⟩
theorem ok_stir_parts (T : Tx K mg) : FnOk P w K mg base CX0 8 T.a_stir_parts T.d_stir_parts p_stir_parts (sp_stir_parts K) := by
  refine T.F_stir_parts.ok sc_stir_parts (fun vs H Q E h => len_stir_parts K vs H Q E h) (fun cdv A outer s H vs Q E hr h => ?_)
  exact ⟨t_stir_parts K, (pss_cons (ps_expr (pe_call (ok_check_engine T) (hr.mono (by decide)) rfl T.g_check_engine T.F_check_engine.kp (b_check_engine T) .nil pass0 (pa_cons (pv 0) pa_nil)))
  (pss_cons (ps_expr (pe_call (ok_check_order T) (hr.mono (by decide)) rfl T.g_check_order T.F_check_order.kp (b_check_order T) .nil pass0 (pa_cons (pv 1) pa_nil)))
  (pss_one (ps_ret (pe_call (ok_thinned_all T) (hr.mono (by decide)) rfl T.g_thinned_all T.F_thinned_all.kp (b_thinned_all T) .nil pass0 (pa_cons (pe_call (ok_stir_by T) (hr.mono (by decide)) rfl T.g_stir_by T.F_stir_by.kp (b_stir_by T) .nil pass0 (pa_cons (pv 0) (pa_cons (pv 1) pa_nil))) pa_nil)))))), pure_stir_parts K vs H Q E h⟩
/-! ### _law_spring -/
def sp__law_spring (K : PySem.W.Frag) : Sp := fun vs H Q _ => ∃ (a : Addr) (ns : List Int) (n : Nat), vs = [.ref a, .int (n : Int)] ∧ SqL K H a (ns.map V.int) ∧ ns.length ≤ 63 ∧ n ≤ 100 ∧ ∀ p H', Same H H' → H p = none → WellAt H' p → Q (.ref p) H'
theorem len__law_spring (K : PySem.W.Frag) (vs : List V) (H : Hp) (Q : VK) (E : XK) (h : sp__law_spring K vs H Q E) : vs.length = p__law_spring.length := by
  obtain ⟨a, ns, n, rfl, _⟩ := h
  rfl
def t__law_spring (K : PySem.W.Frag) : TS :=
  (tSeq (tAsg (tIf (tTest (tOp (rI0 fun i j => .bl (decide (i < j))) (tVar 1) (tCB (rLenQ K) (tCons (tVar 0) tNil)))) (tCB rIntQ (tCons (tOp (rIx K) (tVar 0) (tVar 1)) tNil)) (tOp (rAddA K) (tOp (rAddA K) (tOp (rMulA K) (tC (.int 7349)) (tVar 1)) (tOp (rMulA K) (tC (.int 61)) (tCB (rLenQ K) (tCons (tVar 0) tNil)))) (tC (.int 17)))) (gName 2))
  (tSeq (tAsg (tOp (rAddA K) (tC (.int 5227)) (tOp (rMulA K) (tC (.int 1301)) (tVar 1))) (gName 3))
  (tSeq (tFor (iList K (tOp (rAddA K) (tCB (rListQ K) (tCons (tVar 0) tNil)) (tLst (tCons (tVar 2) tNil)))) (gName 4) (tAsg (tOp rModA (tCB rIntQ (tCons (tOp (rAddA K) (tOp (rAddA K) (tOp (rMulA K) (tVar 3) (tC (.int 39373))) (tOp rModA (tCB rIntQ (tCons (tVar 4) tNil)) (tC (.int 2147483587)))) (tC (.int 31))) tNil)) (tC (.int 2147483587))) (gName 3)))
  (tRet (tLst (tCons (tIf (tOr (tTest (tOp (rI0 fun i j => .bl (decide (i < j))) (tVar 2) (tC (.int 0)))) (tTest (tOp (rI0 fun i j => .bl (decide (j ≤ i))) (tVar 2) (tOp (rI CPow fun i j => .int (i ^ j.toNat)) (tC (.int 10)) (tC (.int 18)))))) (tCB rAbsQ (tCons (tVar 2) tNil)) (tC (.int 0))) (tCons (tVar 3) (tCons (tC (.int 0)) tNil))))))))
theorem pure__law_spring (K : PySem.W.Frag) (vs : List V) (H : Hp) (Q : VK) (E : XK) (h : sp__law_spring K vs H Q E) : t__law_spring K { nx := fun _ H' => Q .non H', rt := Q } (L2.start N__law_spring vs) H := by
  obtain ⟨a, ns, n, rfl, hS, hlen, hn, q⟩ := h
  unfold t__law_spring
  have own : ∀ Q : VK, (∀ o : Int, Q (.int o) H) → (tIf (tTest (tOp (rI0 fun i j => .bl (decide (i < j))) (tVar 1) (tCB (rLenQ K) (tCons (tVar 0) tNil)))) (tCB rIntQ (tCons (tOp (rIx K) (tVar 0) (tVar 1)) tNil)) (tOp (rAddA K) (tOp (rAddA K) (tOp (rMulA K) (tC (.int 7349)) (tVar 1)) (tOp (rMulA K) (tC (.int 61)) (tCB (rLenQ K) (tCons (tVar 0) tNil)))) (tC (.int 17)))) (L2.start N__law_spring [.ref a, .int (n : Int)]) H Q := fun Q q => by
    refine ⟨_, rfl, _, rfl, a, _, rfl, .inl hS, _, _, rfl, rfl, _, rfl, ?_⟩
    refine ite2 (fun hb => ?_) (fun hb => ?_)
    · have hb' : n < ns.length := by
        have := of_decide_eq_true hb
        rw [List.length_map] at this
        omega
      exact ⟨_, rfl, _, rfl, .inl ⟨a, _, (n : Int), .int ns[n], rfl, rfl, hS, atI_nat (by rw [List.getElem?_map, List.getElem?_eq_getElem hb']; rfl), .inl ⟨_, rfl, q _⟩⟩⟩
    · exact ⟨_, rfl, .inl ⟨_, _, rfl, rfl, .inl ⟨by decide, by decide⟩, ⟨_, rfl, a, _, rfl, .inl hS, .inl ⟨_, _, rfl, rfl, .inl ⟨by decide, by decide⟩, .inl ⟨_, _, rfl, rfl, .inl ⟨_, _, rfl, rfl, q _⟩⟩⟩⟩⟩⟩
  refine own _ fun o => ?_
  refine ⟨_, rfl, .inl ⟨_, _, rfl, rfl, .inl ⟨by decide, by decide⟩, .inl ⟨_, _, rfl, rfl, ?_⟩⟩⟩
  refine ⟨_, rfl, a, _, rfl, .inl hS, fun p hp => ?_⟩
  have s1 : Same H (upd H p (.lst (ns.map V.int))) := same_upd hp
  have e1 : (upd H p (.lst (ns.map V.int))) p = some (.lst (ns.map V.int)) := upd_same
  generalize upd H p (.lst (ns.map V.int)) = H1 at s1 e1 ⊢
  refine ⟨_, rfl, (by show 1 ≤ sizeLine; decide), fun p2 hp2 => .inr (.inr ?_)⟩
  have s2 : Same H1 (upd H1 p2 (.lst [V.int o])) := same_upd hp2
  have e2 : (upd H1 p2 (.lst [V.int o])) p2 = some (.lst [V.int o]) := upd_same
  have e1' := s2 _ _ e1
  generalize upd H1 p2 (.lst [V.int o]) = H2 at s2 e2 e1' ⊢
  refine ⟨p, p2, _, _, rfl, rfl, e1', e2, ?_, fun p3 hp3 => ?_⟩
  · rw [List.length_map]
    exact Nat.le_trans (show ns.length + 1 ≤ 100 by omega) (by decide)
  have s3 : Same H2 (upd H2 p3 (.lst (ns.map V.int ++ [V.int o]))) := same_upd hp3
  have e3 : (upd H2 p3 (.lst (ns.map V.int ++ [V.int o]))) p3 = some (.lst ((ns ++ [o]).map V.int)) := by rw [upd_same, List.map_append]; rfl
  generalize upd H2 p3 (.lst (ns.map V.int ++ [V.int o])) = H3 at s3 e3 ⊢
  refine ⟨p3, rfl, ⟨_, .inl (.inl e3)⟩, for_list (xs := (ns ++ [o]).map V.int) (fun i σ H' => ∃ (m : Int) (v : Option V), σ = [some (.ref a), some (.int (n : Int)), some (.int o), some (.int m), v] ∧ 0 ≤ m ∧ m < 2147483587 ∧ Same H3 H')
    ⟨_, none, rfl, by omega, by omega, Same.refl _⟩ (fun i σ H' _ ⟨m, v, _, _, _, s5⟩ => s5.seq (.inl (.inl e3))) (fun i x σ H' hi ⟨m, v, e, h0, h1, s5⟩ => ?_) (fun σ H' ⟨m, v, e, h0, h1, s5⟩ => ?_)⟩
  · subst e
    obtain ⟨z, rfl⟩ : ∃ z, x = V.int z := by
      rw [List.getElem?_map] at hi
      cases e : (ns ++ [o])[i]? with
      | none => rw [e] at hi; cases hi
      | some z => rw [e] at hi; exact ⟨z, (Option.some.inj hi).symm⟩
    refine ⟨_, rfl, .inl ⟨_, _, rfl, rfl, .inl ⟨by omega, by omega⟩, _, rfl, .inl ⟨_, rfl, .inl ⟨_, _, rfl, rfl, (by show (0 : Int) < 2147483587; decide), .inl ⟨_, _, rfl, rfl, .inl ⟨_, _, rfl, rfl, .inl ⟨_, rfl, .inl ⟨_, _, rfl, rfl, (by show (0 : Int) < 2147483587; decide), ?_⟩⟩⟩⟩⟩⟩⟩⟩
    exact ⟨_, some (.int z), rfl, Int.emod_nonneg _ (by decide), Int.emod_lt_of_pos _ (by decide), s5⟩
  · subst e
    have great : ∀ Q : VK, (∀ z : Int, 0 ≤ z → Q (.int z) H') → (tIf (tOr (tTest (tOp (rI0 fun i j => .bl (decide (i < j))) (tVar 2) (tC (.int 0)))) (tTest (tOp (rI0 fun i j => .bl (decide (j ≤ i))) (tVar 2) (tOp (rI CPow fun i j => .int (i ^ j.toNat)) (tC (.int 10)) (tC (.int 18)))))) (tCB rAbsQ (tCons (tVar 2) tNil)) (tC (.int 0))) [some (.ref a), some (.int (n : Int)), some (.int o), some (.int m), v] H' Q := fun Q q => by
      have ab : (tCB rAbsQ (tCons (tVar 2) tNil)) [some (.ref a), some (.int (n : Int)), some (.int o), some (.int m), v] H' Q := ⟨_, rfl, _, rfl, q _ (by split <;> omega)⟩
      have ze : (tC (.int 0)) [some (.ref a), some (.int (n : Int)), some (.int o), some (.int m), v] H' Q := q 0 (Int.le_refl _)
      refine ⟨_, rfl, _, _, rfl, rfl, _, rfl, ?_⟩
      refine ite2 (fun hb => ?_) (fun hb => ?_)
      · exact ab
      · refine ⟨_, rfl, _, _, rfl, rfl, ⟨by decide, by decide, by decide⟩, _, _, rfl, rfl, _, rfl, ?_⟩
        exact ite2 (fun hb => ab) (fun hb => ze)
    refine great _ fun z hz => ?_
    refine ⟨_, rfl, (by show 3 ≤ sizeLine; decide), fun p5 hp5 => ?_⟩
    have sa := ((s1.trans s2).trans s3).trans s5
    exact q p5 _ (sa.trans (same_upd hp5)) (sa.free hp5) ⟨z, m, 0, upd_same, hz, by omega, by omega⟩
theorem ok__law_spring (T : Tx K mg) : FnOk P w K mg base CX0 1 T.a__law_spring T.d__law_spring p__law_spring (sp__law_spring K) := by
  refine T.F__law_spring.ok sc__law_spring (fun vs H Q E h => len__law_spring K vs H Q E h) (fun cdv A outer s H vs Q E hr h => ?_)
  exact ⟨t__law_spring K, (pss_cons (ps_set (i := 2) sc__law_spring.nd rfl (Or.inl rfl) (pe_ifExp (pt_cmpR op_lt (pv 1) (pe_callB call_len_seq (by rfl) T.n_len (by decide +kernel) (pa_cons (pv 0) pa_nil)) (nomark _)) (pe_callTy call_int1 (by rfl) T.n_int (by decide +kernel) (pa_cons (pe_ix ix_seq (pv 0) (pv 1) (fun _ _ => rfl)) pa_nil)) (pe_op op_addA (pe_op op_addA (pe_op op_mulA pe_int (pv 1)) (pe_op op_mulA pe_int (pe_callB call_len_seq (by rfl) T.n_len (by decide +kernel) (pa_cons (pv 0) pa_nil)))) pe_int)))
  (pss_cons (ps_set (i := 3) sc__law_spring.nd rfl (Or.inl rfl) (pe_op op_addA pe_int (pe_op op_mulA pe_int (pv 1))))
  (pss_cons (ps_for PassesOwn.never rfl (pi_list (pe_op op_addA (pe_callTy call_list_of (by rfl) T.n_list (by decide +kernel) (pa_cons (pv 0) pa_nil)) (pe_lst (pa_cons (pv 2) pa_nil)))) (pg_name (i := 4) sc__law_spring.nd rfl (Or.inl rfl)) (pss_one (ps_set (i := 3) sc__law_spring.nd rfl (Or.inl rfl) (pe_op op_modA (pe_callTy call_int1 (by rfl) T.n_int (by decide +kernel) (pa_cons (pe_op op_addA (pe_op op_addA (pe_op op_mulA (pv 3) pe_int) (pe_op op_modA (pe_callTy call_int1 (by rfl) T.n_int (by decide +kernel) (pa_cons (pv 4) pa_nil)) pe_int)) pe_int) pa_nil)) pe_int))))
  (pss_one (ps_ret (pe_lst (pa_cons (pe_ifExp (PW.pt (pw_or (pt_cmpR op_lt (pv 2) pe_int (nomark _)) (pw_or1 (pt_cmpR op_ge (pv 2) (pe_op op_pow pe_int pe_int) (nomark _))))) (pe_callB call_abs (by rfl) T.n_abs (by decide +kernel) (pa_cons (pv 2) pa_nil)) pe_int) (pa_cons (pv 3) (pa_cons pe_int pa_nil))))))))), pure__law_spring K vs H Q E h⟩
/-! ### _law_pull -/

def pre__law_pull : List PyData → Prop := fun ds => ∃ m : Int, ds = [.int m] ∧ 0 < m ∧ m < 1000001
def post__law_pull : List PyData → PyData → Prop := fun ds d => ∃ m z : Int, ds = [.int m] ∧ d = .int z ∧ 0 ≤ z ∧ z < m
abbrev sp__law_pull (K : PySem.W.Frag) : Sp := SpW K pre__law_pull post__law_pull
theorem len__law_pull (K : PySem.W.Frag) (vs : List V) (H : Hp) (Q : VK) (E : XK) (h : sp__law_pull K vs H Q E) : vs.length = p__law_pull.length := len_W (n := 1) h fun ds hp => by
  obtain ⟨m, e, hm0, hm1⟩ := hp
  rw [e]; rfl
def t__law_pull (K : PySem.W.Frag) : TS :=
  (tSeq (tIfS (tTest (tOp (rI0 fun i j => .bl (decide (j < i))) (tOp (rIx K) (tVar 0) (tC (.int 0))) (tC (.int 0)))) (tSeq (tAsg (tOp rModA (tCB rIntQ (tCons (tOp (rIx K) (tVar 0) (tC (.int 0))) tNil)) (tVar 1)) (gName 2))
  (tSeq (tAsg (tOp rFdA (tOp (rIx K) (tVar 0) (tC (.int 0))) (tVar 1)) (gSub (tVar 0) (tC (.int 0)) rSetL))
  (tRet (tVar 2)))) tNext)
  (tSeq (tAsg (tOp (rAddA K) (tOp (rIx K) (tVar 0) (tC (.int 2))) (tC (.int 1))) (gSub (tVar 0) (tC (.int 2)) rSetL))
  (tSeq (tAsg (tOp rModA (tCB rIntQ (tCons (tOp (rAddA K) (tOp (rAddA K) (tOp (rMulA K) (tOp (rIx K) (tVar 0) (tC (.int 1))) (tC (.int 41358))) (tOp (rMulA K) (tC (.int 60013)) (tOp (rIx K) (tVar 0) (tC (.int 2))))) (tC (.int 7))) tNil)) (tC (.int 2147483579))) (gSub (tVar 0) (tC (.int 1)) rSetL))
  (tRet (tOp rModA (tCB rIntQ (tCons (tOp rFdA (tOp (rIx K) (tVar 0) (tC (.int 1))) (tC (.int 113))) tNil)) (tVar 1))))))
theorem pure__law_pull (K : PySem.W.Frag) (vs : List V) (H : Hp) (Q : VK) (E : XK) (h : sp__law_pull K vs H Q E) : t__law_pull K { nx := fun _ H' => Q .non H', rt := Q } (L2.start N__law_pull vs) H := body_W h (by decide) fun B w ds hp => by
  obtain ⟨m, e, hm0, hm1⟩ := hp
  subst e
  unfold t__law_pull
  refine st_seq (st_if (et_test (ev_op ?_)))
  refine ev_well rfl (ev_int ⟨0, rfl, .inl rfl, fun n hn _ => ?_⟩)
  refine ev_int (rok_b0 ⟨_, rfl, fun hb => ?_, fun hb => ?_⟩)
  · refine st_seq (st_asg (ev_op (ev_cb (ea_cons (ev_well rfl (ev_int ⟨0, rfl, .inl rfl, fun n hn _ => ea_nil (co_int (ev_var rfl (ro_mod hm0 ?_)))⟩))))))
    refine st_seq (st_setWell rfl (ev_op (ev_well rfl (ev_int ⟨0, rfl, .inl rfl, fun n2 hn2 _ => ev_var rfl (ro_fd ⟨hm0, by omega⟩ (ev_int ⟨_, 0, rfl, rfl, .inl rfl, fun _ => Int.ediv_nonneg (hn2 rfl) (by omega), fun z => absurd z (by decide), ?_⟩))⟩))))
    exact st_ret (ev_var rfl ⟨m, _, rfl, rfl, Int.emod_nonneg _ (by omega), Int.emod_lt_of_pos _ hm0⟩)
  · refine st_next (st_seq (st_setWell rfl ?_))
    refine ev_op (ev_well rfl (ev_int ⟨2, rfl, .inr (.inr rfl), fun n _ _ => ?_⟩))
    refine ev_int (ro_add ?_)
    refine ev_int ⟨_, 2, rfl, rfl, .inr (.inr rfl), by omega, by omega, ?_⟩
    refine st_seq (st_setWell rfl (ev_op (ev_cb (ea_cons (ev_op (ev_op (ev_op (ev_well rfl (ev_int ⟨1, rfl, .inr (.inl rfl), fun b _ hb => ?_⟩)))))))))
    refine ev_int (ro_mul (.inr (by decide)) (ev_op (ev_int (ev_well rfl (ev_int ⟨2, rfl, .inr (.inr rfl), fun c _ _ => ?_⟩)))))
    refine ro_mul (.inl (by decide)) (ro_add (ev_int (ro_add (ea_nil (co_int (ev_int (ro_mod (by decide) ?_)))))))
    refine ev_int ⟨_, 1, rfl, rfl, .inr (.inl rfl), by omega, fun _ => ⟨Int.emod_nonneg _ (by decide), Int.lt_trans (Int.emod_lt_of_pos _ (by decide)) (by decide)⟩, ?_⟩
    refine st_ret (ev_op (ev_cb (ea_cons (ev_op (ev_well rfl (ev_int ⟨1, rfl, .inr (.inl rfl), fun b _ hb => ?_⟩))))))
    refine ev_int (ro_fd (by decide) (ea_nil (co_int (ev_var rfl (ro_mod hm0 ?_)))))
    exact ⟨m, _, rfl, rfl, Int.emod_nonneg _ (by omega), Int.emod_lt_of_pos _ hm0⟩
theorem ok__law_pull (T : Tx K mg) : FnOk P w K mg base CX0 1 T.a__law_pull T.d__law_pull p__law_pull (sp__law_pull K) := by
  refine T.F__law_pull.ok sc__law_pull (fun vs H Q E h => len__law_pull K vs H Q E h) (fun cdv A outer s H vs Q E hr h => ?_)
  exact ⟨t__law_pull K, (pss_cons (ps_if (pt_cmpR op_gt (pe_ix ix_seq (pv 0) pe_int (fun _ _ => rfl)) pe_int (nomark _)) (pss_cons (ps_set (i := 2) sc__law_pull.nd rfl (Or.inl rfl) (pe_op op_modA (pe_callTy call_int1 (by rfl) T.n_int (by decide +kernel) (pa_cons (pe_ix ix_seq (pv 0) pe_int (fun _ _ => rfl)) pa_nil)) (pv 1)))
  (pss_cons (ps_asg (pe_op op_fdA (pe_ix ix_seq (pv 0) pe_int (fun _ _ => rfl)) (pv 1)) (pg_sub (pv 0) pe_int set_list))
  (pss_one (ps_ret (pv 2))))) pss_nil)
  (pss_cons (ps_asg (pe_op op_addA (pe_ix ix_seq (pv 0) pe_int (fun _ _ => rfl)) pe_int) (pg_sub (pv 0) pe_int set_list))
  (pss_cons (ps_asg (pe_op op_modA (pe_callTy call_int1 (by rfl) T.n_int (by decide +kernel) (pa_cons (pe_op op_addA (pe_op op_addA (pe_op op_mulA (pe_ix ix_seq (pv 0) pe_int (fun _ _ => rfl)) pe_int) (pe_op op_mulA pe_int (pe_ix ix_seq (pv 0) pe_int (fun _ _ => rfl)))) pe_int) pa_nil)) pe_int) (pg_sub (pv 0) pe_int set_list))
  (pss_one (ps_ret (pe_op op_modA (pe_callTy call_int1 (by rfl) T.n_int (by decide +kernel) (pa_cons (pe_op op_fdA (pe_ix ix_seq (pv 0) pe_int (fun _ _ => rfl)) pe_int) pa_nil)) (pv 1))))))), pure__law_pull K vs H Q E h⟩
/-! ### _law_from -/

def pre__law_from : List PyData → Prop := fun ds => ∃ xs : List PyData, ds = [.list xs] ∧ 0 < xs.length ∧ xs.length < 1000
def post__law_from : List PyData → PyData → Prop := fun ds d => ∃ xs : List PyData, ds = [.list xs] ∧ d ∈ xs
abbrev sp__law_from (K : PySem.W.Frag) : Sp := SpW K pre__law_from post__law_from
theorem len__law_from (K : PySem.W.Frag) (vs : List V) (H : Hp) (Q : VK) (E : XK) (h : sp__law_from K vs H Q E) : vs.length = p__law_from.length := len_W (n := 1) h fun ds hp => by
  obtain ⟨xs, e, h0, h1⟩ := hp
  rw [e]; rfl
def t__law_from (K : PySem.W.Frag) : TS :=
  (tRet (tOp (rIx K) (tVar 1) (tCall (sp__law_pull K) [] E0 (tCons (tVar 0) (tCons (tCB (rLenQ K) (tCons (tVar 1) tNil)) tNil)))))
theorem pure__law_from (K : PySem.W.Frag) (vs : List V) (H : Hp) (Q : VK) (E : XK) (h : sp__law_from K vs H Q E) : t__law_from K { nx := fun _ H' => Q .non H', rt := Q } (L2.start N__law_from vs) H := body_W h (by decide) fun B w ds hp => by
  obtain ⟨xs, e, h0, h1⟩ := hp
  subst e
  unfold t__law_from
  refine st_ret (ev_op (ev_var rfl (ev_callW rfl ?_)))
  walk_at "dd"
  refine ⟨⟨_, rfl, by omega, by omega⟩, fun d ⟨m, z, em, ed, hz0, hz1⟩ => ?_⟩
  cases em
  subst ed
  obtain ⟨j, rfl⟩ := Int.eq_ofNat_of_zero_le hz0
  have hj : j < xs.length := by omega
  exact rok_ixsL (d := xs[j]) (atI_nat (List.getElem?_eq_getElem hj)) ⟨xs, rfl, List.getElem_mem hj⟩
theorem ok__law_from (T : Tx K mg) : FnOk P w K mg base CX0 2 T.a__law_from T.d__law_from p__law_from (sp__law_from K) := by
  refine T.F__law_from.ok sc__law_from (fun vs H Q E h => len__law_from K vs H Q E h) (fun cdv A outer s H vs Q E hr h => ?_)
  exact ⟨t__law_from K, (pss_one (ps_ret (pe_ix ix_seq (pv 1) (pe_call (ok__law_pull T) (hr.mono (by decide)) rfl T.g__law_pull T.F__law_pull.kp (b__law_pull T) .nil pass0 (pa_cons (pv 0) (pa_cons (pe_callB call_len_seq (by rfl) T.n_len (by decide +kernel) (pa_cons (pv 1) pa_nil)) pa_nil))) (fun _ _ => rfl)))), pure__law_from K vs H Q E h⟩
/-! ### _law_common -/

def pre__law_common : List PyData → Prop := fun ds => ∃ a b : Int, ds = [.int a, .int b]
def post__law_common : List PyData → PyData → Prop := fun ds d => ∃ a b : Int, ds = [.int a, .int b] ∧ d = .int ((Nat.gcd a.natAbs b.natAbs : Nat) : Int)
abbrev sp__law_common (K : PySem.W.Frag) : Sp := SpP K pre__law_common post__law_common
theorem len__law_common (K : PySem.W.Frag) (vs : List V) (H : Hp) (Q : VK) (E : XK) (h : sp__law_common K vs H Q E) : vs.length = p__law_common.length := len_P (n := 2) h fun ds hp => by
  obtain ⟨a, b, e⟩ := hp
  rw [e]; rfl
def t__law_common (K : PySem.W.Frag) : TS :=
  (tSeq (tPar 0 1 (tCons (tCB rAbsQ (tCons (tVar 0) tNil)) (tCons (tCB rAbsQ (tCons (tVar 1) tNil)) tNil)))
  (tSeq (tWhile (tTest (tOp (rI0 fun i j => .bl (decide (j < i))) (tVar 1) (tC (.int 0)))) (tPar 0 1 (tCons (tVar 1) (tCons (tOp rModA (tCB rIntQ (tCons (tVar 0) tNil)) (tVar 1)) tNil))))
  (tRet (tVar 0))))
theorem pure__law_common (K : PySem.W.Frag) (vs : List V) (H : Hp) (Q : VK) (E : XK) (h : sp__law_common K vs H Q E) : t__law_common K { nx := fun _ H' => Q .non H', rt := Q } (L2.start N__law_common vs) H := body_P h fun B ds hW hp => by
  obtain ⟨a, b, e⟩ := hp
  subst e
  unfold t__law_common
  refine st_seq (st_par ?_)
  walk_at "dd"
  refine ⟨_, _, rfl, ?_⟩
  refine st_seq (st_while (fun m L2 Γ2 => ∃ x y : Int, L2 = [] ∧ Γ2 = [.d (.int x), .d (.int y)] ∧ 0 ≤ x ∧ 0 ≤ y ∧ m = y.toNat ∧ Nat.gcd x.natAbs y.natAbs = Nat.gcd a.natAbs b.natAbs) b.natAbs ⟨_, _, rfl, rfl, ?_, ?_, ?_, ?_⟩ ?_)
  · split <;> omega
  · split <;> omega
  · split <;> omega
  · congr 1 <;> (split <;> omega)
  · rintro m L2 Γ2 ⟨x, y, rfl, rfl, hx, hy, rfl, hg⟩
    walk_at "dd"
    refine ⟨fun hb => ?_, fun hb => ?_⟩
    · have hy' : 0 < y := of_decide_eq_true hb
      refine st_par ?_
      walk_at "dd"
      refine ro_mod hy' (ea_nil ⟨_, _, rfl, (x % y).toNat, ?_, y, x % y, rfl, rfl, hy, Int.emod_nonneg _ (by omega), rfl, ?_⟩)
      · have h1 := Int.emod_lt_of_pos x hy'
        have h2 := Int.emod_nonneg x (show y ≠ 0 by omega)
        omega
      · rw [← hg]
        have e1 : (x % y).natAbs = x.natAbs % y.natAbs := by
          obtain ⟨p, rfl⟩ := Int.eq_ofNat_of_zero_le hx
          obtain ⟨q, rfl⟩ := Int.eq_ofNat_of_zero_le hy
          rw [← Int.natCast_emod]
          simp only [Int.natAbs_natCast]
        rw [e1, Nat.gcd_comm x.natAbs y.natAbs, Nat.gcd_comm y.natAbs (x.natAbs % y.natAbs), ← Nat.gcd_rec]
    · have hy' : y = 0 := by
        have := of_decide_eq_false hb
        omega
      subst hy'
      refine st_ret (ev_var rfl ⟨a, b, rfl, ?_⟩)
      rw [← hg]
      show PyData.int x = PyData.int ((Nat.gcd x.natAbs 0 : Nat) : Int)
      rw [Nat.gcd_zero_right]
      congr 1
      omega
theorem ok__law_common (T : Tx K mg) : FnOk P w K mg base CX0 1 T.a__law_common T.d__law_common p__law_common (sp__law_common K) := by
  refine T.F__law_common.ok sc__law_common (fun vs H Q E h => len__law_common K vs H Q E h) (fun cdv A outer s H vs Q E hr h => ?_)
  exact ⟨t__law_common K, (pss_cons (ps_par (by rfl) sc__law_common.nd rfl rfl (by decide) rfl rfl (pa_cons (pe_callB call_abs (by rfl) T.n_abs (by decide +kernel) (pa_cons (pv 0) pa_nil)) (pa_cons (pe_callB call_abs (by rfl) T.n_abs (by decide +kernel) (pa_cons (pv 1) pa_nil)) pa_nil)) (by rfl))
  (pss_cons (ps_while PassesOwn.never (pt_cmpR op_gt (pv 1) pe_int (nomark _)) (pss_one (ps_par (by rfl) sc__law_common.nd rfl rfl (by decide) rfl rfl (pa_cons (pv 1) (pa_cons (pe_op op_modA (pe_callTy call_int1 (by rfl) T.n_int (by decide +kernel) (pa_cons (pv 0) pa_nil)) (pv 1)) pa_nil)) (by rfl))))
  (pss_one (ps_ret (pv 0))))), pure__law_common K vs H Q E h⟩
/-! ### _law_frac -/

def pre__law_frac : List PyData → Prop := fun ds => ∃ n m : Int, ds = [.int n, .int m] ∧ 0 < m ∧ m.natAbs < 2 ^ 9000
def post__law_frac : List PyData → PyData → Prop := fun ds d => ∃ n m : Int, ds = [.int n, .int m] ∧ ∃ x : Fr, d = frD x ∧ FOk x ∧ val x = (n : Rat) / (m : Rat) ∧ x.1.natAbs ≤ n.natAbs ∧ x.2.natAbs ≤ m.natAbs
abbrev sp__law_frac (K : PySem.W.Frag) : Sp := SpP K pre__law_frac post__law_frac
theorem len__law_frac (K : PySem.W.Frag) (vs : List V) (H : Hp) (Q : VK) (E : XK) (h : sp__law_frac K vs H Q E) : vs.length = p__law_frac.length := len_P (n := 2) h fun ds hp => by
  obtain ⟨n, m, e, hm, hz⟩ := hp
  rw [e]; rfl
def t__law_frac (K : PySem.W.Frag) : TS :=
  (tSeq (tAsg (tCall (sp__law_common K) [] E0 (tCons (tVar 0) (tCons (tVar 1) tNil))) (gName 2))
  (tSeq (tAsg (tIf (tTest (tOp (rI0 fun i j => .bl (decide (j < i))) (tVar 1) (tC (.int 0)))) (tVar 2) (tOp (rI0 fun i j => .int (i - j)) (tC (.int 0)) (tVar 2))) (gName 2))
  (tRet (tTup (tCons (tOp rFdA (tVar 0) (tVar 2)) (tCons (tOp rFdA (tVar 1) (tVar 2)) tNil))))))
theorem pure__law_frac (K : PySem.W.Frag) (vs : List V) (H : Hp) (Q : VK) (E : XK) (h : sp__law_frac K vs H Q E) : t__law_frac K { nx := fun _ H' => Q .non H', rt := Q } (L2.start N__law_frac vs) H := body_P h fun B ds hW hp => by
  obtain ⟨n, m, e, hm0, hz⟩ := hp
  subst e
  unfold t__law_frac
  have hm : m ≠ 0 := by omega
  refine st_seq (st_asg (ev_callP (ea_cons (ev_var rfl (ea_cons (ev_var rfl (ea_nil ⟨⟨_, _, rfl⟩, fun d ⟨a, b, eab, ed⟩ => ?_⟩)))))))
  cases eab
  subst ed
  have hg : 0 < Nat.gcd n.natAbs m.natAbs := Nat.gcd_pos_of_pos_right _ (by omega)
  have gl : Nat.gcd n.natAbs m.natAbs ≤ m.natAbs := Nat.le_of_dvd (by omega) (Nat.gcd_dvd_right _ _)
  obtain ⟨p, hp⟩ : ((Nat.gcd n.natAbs m.natAbs : Nat) : Int) ∣ n := Int.ofNat_dvd_left.mpr (Nat.gcd_dvd_left _ _)
  obtain ⟨r, hr⟩ : ((Nat.gcd n.natAbs m.natAbs : Nat) : Int) ∣ m := Int.ofNat_dvd_left.mpr (Nat.gcd_dvd_right _ _)
  have hc : Nat.gcd p.natAbs r.natAbs = 1 := by
    have e1 : n.natAbs = Nat.gcd n.natAbs m.natAbs * p.natAbs := by
      conv => lhs; rw [hp, Int.natAbs_mul, Int.natAbs_natCast]
    have e2 : m.natAbs = Nat.gcd n.natAbs m.natAbs * r.natAbs := by
      conv => lhs; rw [hr, Int.natAbs_mul, Int.natAbs_natCast]
    have e3 : Nat.gcd (Nat.gcd n.natAbs m.natAbs * p.natAbs) (Nat.gcd n.natAbs m.natAbs * r.natAbs) = Nat.gcd n.natAbs m.natAbs * Nat.gcd p.natAbs r.natAbs := Nat.gcd_mul_left ..
    rw [← e1, ← e2] at e3
    exact Nat.eq_of_mul_eq_mul_left hg (by rw [Nat.mul_one]; exact e3.symm)
  generalize Nat.gcd n.natAbs m.natAbs = g at *
  have hg0 : (0 : Int) < (g : Int) := by omega
  have dn : n / (g : Int) = p := by
    rw [hp]
    exact Int.mul_ediv_cancel_left _ (by omega)
  have dm : m / (g : Int) = r := by
    rw [hr]
    exact Int.mul_ediv_cancel_left _ (by omega)
  have cd : CDivW 0 (g : Int) := by
    refine ⟨hg0, ?_⟩
    have := lg (x := (g : Int)) (m := 9000) (by rw [Int.natAbs_natCast]; omega)
    rw [Int.natAbs_natCast] at this ⊢
    exact (Nat.log2_lt (by omega)).mpr (by omega)
  have cdn : CDivW n (g : Int) := cd
  have cdm : CDivW m (g : Int) := cd
  have rn := ratInt_ne hm
  have rg := ratInt_ne (a := (g : Int)) (by omega)
  have ln : p.natAbs ≤ n.natAbs := by
    rw [hp, Int.natAbs_mul, Int.natAbs_natCast]
    exact Nat.le_mul_of_pos_left _ hg
  have lm : r.natAbs ≤ m.natAbs := by
    rw [hr, Int.natAbs_mul, Int.natAbs_natCast]
    exact Nat.le_mul_of_pos_left _ hg
  have vp : (n : Rat) = (g : Int) * (p : Rat) := by
    conv => lhs; rw [hp]
    exact Rat.intCast_mul _ _
  have vr : (m : Rat) = (g : Int) * (r : Rat) := by
    conv => lhs; rw [hr]
    exact Rat.intCast_mul _ _
  refine st_seq (st_asg (ev_if (et_test (ev_op (ev_var rfl (ev_int (rok_b0 ⟨_, rfl, fun _ => ev_var rfl ?_, fun hb => absurd (of_decide_eq_false hb) (by omega)⟩)))))))
  have r0 : 0 < r := by
    rcases Int.lt_trichotomy r 0 with z | z | z
    · have := Int.mul_neg_of_pos_of_neg hg0 z
      omega
    · rw [z] at hr
      omega
    · exact z
  refine st_ret (ev_tup (ea_cons (ev_op (ev_var rfl (ev_var rfl (ro_fdW cdn ?_))))))
  refine ea_cons (ev_op (ev_var rfl (ev_var rfl (ro_fdW cdm (ea_nil ⟨by simp, n, m, rfl, (p, r), ?_, ⟨r0, hc⟩, ?_, ln, lm⟩)))))
  · rw [dn, dm]
    rfl
  · have := ratInt_ne (a := r) (by omega)
    unfold val
    rw [vp, vr]
    grind

theorem ok__law_frac (T : Tx K mg) : FnOk P w K mg base CX0 2 T.a__law_frac T.d__law_frac p__law_frac (sp__law_frac K) := by
  refine T.F__law_frac.ok sc__law_frac (fun vs H Q E h => len__law_frac K vs H Q E h) (fun cdv A outer s H vs Q E hr h => ?_)
  exact ⟨t__law_frac K, (pss_cons (ps_set (i := 2) sc__law_frac.nd rfl (Or.inl rfl) (pe_call (ok__law_common T) (hr.mono (by decide)) rfl T.g__law_common T.F__law_common.kp (b__law_common T) .nil pass0 (pa_cons (pv 0) (pa_cons (pv 1) pa_nil))))
  (pss_cons (ps_set (i := 2) sc__law_frac.nd rfl (Or.inl rfl) (pe_ifExp (pt_cmpR op_gt (pv 1) pe_int (nomark _)) (pv 2) (pe_op op_sub pe_int (pv 2))))
  (pss_one (ps_ret (pe_tup (pa_cons (pe_op op_fdA (pv 0) (pv 2)) (pa_cons (pe_op op_fdA (pv 1) (pv 2)) pa_nil))))))), pure__law_frac K vs H Q E h⟩
/-! ### _law_plus -/

def pre__law_plus : List PyData → Prop := fun ds => ∃ x y : Fr, ds = [frD x, frD y] ∧ Sm x ∧ Sm y
def post__law_plus : List PyData → PyData → Prop := fun ds d => ∃ x y r : Fr, ds = [frD x, frD y] ∧ d = frD r ∧ FOk r ∧ val r = val x + val y
abbrev sp__law_plus (K : PySem.W.Frag) : Sp := SpP K pre__law_plus post__law_plus
theorem len__law_plus (K : PySem.W.Frag) (vs : List V) (H : Hp) (Q : VK) (E : XK) (h : sp__law_plus K vs H Q E) : vs.length = p__law_plus.length := len_P (n := 2) h fun ds hp => by
  obtain ⟨x, y, e, hx, hy⟩ := hp
  rw [e]; rfl
def t__law_plus (K : PySem.W.Frag) : TS :=
  (tRet (tCall (sp__law_frac K) [] E0 (tCons (tOp (rAddA K) (tOp (rMulA K) (tOp (rIx K) (tVar 0) (tC (.int 0))) (tOp (rIx K) (tVar 1) (tC (.int 1)))) (tOp (rMulA K) (tOp (rIx K) (tVar 1) (tC (.int 0))) (tOp (rIx K) (tVar 0) (tC (.int 1))))) (tCons (tOp (rMulA K) (tOp (rIx K) (tVar 0) (tC (.int 1))) (tOp (rIx K) (tVar 1) (tC (.int 1)))) tNil))))
theorem pure__law_plus (K : PySem.W.Frag) (vs : List V) (H : Hp) (Q : VK) (E : XK) (h : sp__law_plus K vs H Q E) : t__law_plus K { nx := fun _ H' => Q .non H', rt := Q } (L2.start N__law_plus vs) H := body_P h fun B ds hW hp => by
  obtain ⟨x, y, e, hx, hy⟩ := hp
  subst e
  unfold t__law_plus
  obtain ⟨x1, x2, x3⟩ := hx
  obtain ⟨y1, y2, y3⟩ := hy
  have nx := ratInt_ne (a := x.2) (by omega)
  have ny := ratInt_ne (a := y.2) (by omega)
  refine st_ret (ev_callP ?_)
  walk_at "dd"
  refine ro_mulW (mulW_of x2 y3 (by decide)) ?_
  walk_at "dd"
  refine ro_mulW (mulW_of y2 x3 (by decide)) ?_
  walk_at "dd"
  refine ro_mulW (mulW_of x3 y3 (by decide)) ?_
  have hm : 0 < x.2 * y.2 := Int.mul_pos x1 y1
  refine ea_nil ⟨⟨_, _, rfl, hm, pow_up (natAbs_mul_lt x3 y3) (by decide)⟩, fun d ⟨n', m', en, r, ed, f, v, _, _⟩ => ?_⟩
  simp only [List.cons.injEq, PyData.int.injEq, and_true] at en
  obtain ⟨rfl, rfl⟩ := en
  refine ⟨x, y, r, rfl, ed, f, ?_⟩
  rw [v]
  unfold val
  rw [Rat.intCast_add, Rat.intCast_mul, Rat.intCast_mul, Rat.intCast_mul]
  grind
theorem ok__law_plus (T : Tx K mg) : FnOk P w K mg base CX0 3 T.a__law_plus T.d__law_plus p__law_plus (sp__law_plus K) := by
  refine T.F__law_plus.ok sc__law_plus (fun vs H Q E h => len__law_plus K vs H Q E h) (fun cdv A outer s H vs Q E hr h => ?_)
  exact ⟨t__law_plus K, (pss_one (ps_ret (pe_call (ok__law_frac T) (hr.mono (by decide)) rfl T.g__law_frac T.F__law_frac.kp (b__law_frac T) .nil pass0 (pa_cons (pe_op op_addA (pe_op op_mulA (pe_ix ix_seq (pv 0) pe_int (fun _ _ => rfl)) (pe_ix ix_seq (pv 1) pe_int (fun _ _ => rfl))) (pe_op op_mulA (pe_ix ix_seq (pv 1) pe_int (fun _ _ => rfl)) (pe_ix ix_seq (pv 0) pe_int (fun _ _ => rfl)))) (pa_cons (pe_op op_mulA (pe_ix ix_seq (pv 0) pe_int (fun _ _ => rfl)) (pe_ix ix_seq (pv 1) pe_int (fun _ _ => rfl))) pa_nil))))), pure__law_plus K vs H Q E h⟩
/-! ### _law_by -/

def pre__law_by : List PyData → Prop := fun ds => ∃ x y : Fr, ds = [frD x, frD y] ∧ Sm x ∧ Sm y
def post__law_by : List PyData → PyData → Prop := fun ds d => ∃ x y r : Fr, ds = [frD x, frD y] ∧ d = frD r ∧ FOk r ∧ val r = val x * val y
abbrev sp__law_by (K : PySem.W.Frag) : Sp := SpP K pre__law_by post__law_by
theorem len__law_by (K : PySem.W.Frag) (vs : List V) (H : Hp) (Q : VK) (E : XK) (h : sp__law_by K vs H Q E) : vs.length = p__law_by.length := len_P (n := 2) h fun ds hp => by
  obtain ⟨x, y, e, hx, hy⟩ := hp
  rw [e]; rfl
def t__law_by (K : PySem.W.Frag) : TS :=
  (tRet (tCall (sp__law_frac K) [] E0 (tCons (tOp (rMulA K) (tOp (rIx K) (tVar 0) (tC (.int 0))) (tOp (rIx K) (tVar 1) (tC (.int 0)))) (tCons (tOp (rMulA K) (tOp (rIx K) (tVar 0) (tC (.int 1))) (tOp (rIx K) (tVar 1) (tC (.int 1)))) tNil))))
theorem pure__law_by (K : PySem.W.Frag) (vs : List V) (H : Hp) (Q : VK) (E : XK) (h : sp__law_by K vs H Q E) : t__law_by K { nx := fun _ H' => Q .non H', rt := Q } (L2.start N__law_by vs) H := body_P h fun B ds hW hp => by
  obtain ⟨x, y, e, hx, hy⟩ := hp
  subst e
  unfold t__law_by
  obtain ⟨x1, x2, x3⟩ := hx
  obtain ⟨y1, y2, y3⟩ := hy
  have nx := ratInt_ne (a := x.2) (by omega)
  have ny := ratInt_ne (a := y.2) (by omega)
  refine st_ret (ev_callP ?_)
  walk_at "dd"
  refine ro_mulW (mulW_of x2 y2 (by decide)) ?_
  walk_at "dd"
  refine ro_mulW (mulW_of x3 y3 (by decide)) ?_
  have hm : 0 < x.2 * y.2 := Int.mul_pos x1 y1
  refine ea_nil ⟨⟨_, _, rfl, hm, pow_up (natAbs_mul_lt x3 y3) (by decide)⟩, fun d ⟨n', m', en, r, ed, f, v, _, _⟩ => ?_⟩
  simp only [List.cons.injEq, PyData.int.injEq, and_true] at en
  obtain ⟨rfl, rfl⟩ := en
  refine ⟨x, y, r, rfl, ed, f, ?_⟩
  rw [v]
  unfold val
  rw [Rat.intCast_mul, Rat.intCast_mul]
  grind
theorem ok__law_by (T : Tx K mg) : FnOk P w K mg base CX0 3 T.a__law_by T.d__law_by p__law_by (sp__law_by K) := by
  refine T.F__law_by.ok sc__law_by (fun vs H Q E h => len__law_by K vs H Q E h) (fun cdv A outer s H vs Q E hr h => ?_)
  exact ⟨t__law_by K, (pss_one (ps_ret (pe_call (ok__law_frac T) (hr.mono (by decide)) rfl T.g__law_frac T.F__law_frac.kp (b__law_frac T) .nil pass0 (pa_cons (pe_op op_mulA (pe_ix ix_seq (pv 0) pe_int (fun _ _ => rfl)) (pe_ix ix_seq (pv 1) pe_int (fun _ _ => rfl))) (pa_cons (pe_op op_mulA (pe_ix ix_seq (pv 0) pe_int (fun _ _ => rfl)) (pe_ix ix_seq (pv 1) pe_int (fun _ _ => rfl))) pa_nil))))), pure__law_by K vs H Q E h⟩
/-! ### _law_over -/

def pre__law_over : List PyData → Prop := fun ds => ∃ x y : Fr, ds = [frD x, frD y] ∧ Sm x ∧ Sm y ∧ 0 < y.1
def post__law_over : List PyData → PyData → Prop := fun ds d => ∃ x y r : Fr, ds = [frD x, frD y] ∧ d = frD r ∧ FOk r ∧ val r = val x / val y
abbrev sp__law_over (K : PySem.W.Frag) : Sp := SpP K pre__law_over post__law_over
theorem len__law_over (K : PySem.W.Frag) (vs : List V) (H : Hp) (Q : VK) (E : XK) (h : sp__law_over K vs H Q E) : vs.length = p__law_over.length := len_P (n := 2) h fun ds hp => by
  obtain ⟨x, y, e, hx, hy, y0⟩ := hp
  rw [e]; rfl
def t__law_over (K : PySem.W.Frag) : TS :=
  (tRet (tCall (sp__law_frac K) [] E0 (tCons (tOp (rMulA K) (tOp (rIx K) (tVar 0) (tC (.int 0))) (tOp (rIx K) (tVar 1) (tC (.int 1)))) (tCons (tOp (rMulA K) (tOp (rIx K) (tVar 0) (tC (.int 1))) (tOp (rIx K) (tVar 1) (tC (.int 0)))) tNil))))
theorem pure__law_over (K : PySem.W.Frag) (vs : List V) (H : Hp) (Q : VK) (E : XK) (h : sp__law_over K vs H Q E) : t__law_over K { nx := fun _ H' => Q .non H', rt := Q } (L2.start N__law_over vs) H := body_P h fun B ds hW hp => by
  obtain ⟨x, y, e, hx, hy, yp⟩ := hp
  subst e
  unfold t__law_over
  obtain ⟨x1, x2, x3⟩ := hx
  obtain ⟨y1, y2, y3⟩ := hy
  have nx := ratInt_ne (a := x.2) (by omega)
  have ny := ratInt_ne (a := y.2) (by omega)
  refine st_ret (ev_callP ?_)
  walk_at "dd"
  refine ro_mulW (mulW_of x2 y3 (by decide)) ?_
  walk_at "dd"
  refine ro_mulW (mulW_of x3 y2 (by decide)) ?_
  have y0 : y.1 ≠ 0 := by omega
  have hm : 0 < x.2 * y.1 := Int.mul_pos x1 yp
  refine ea_nil ⟨⟨_, _, rfl, hm, pow_up (natAbs_mul_lt x3 y2) (by decide)⟩, fun d ⟨n', m', en, r, ed, f, v, _, _⟩ => ?_⟩
  simp only [List.cons.injEq, PyData.int.injEq, and_true] at en
  obtain ⟨rfl, rfl⟩ := en
  refine ⟨x, y, r, rfl, ed, f, ?_⟩
  rw [v]
  have nz := ratInt_ne y0
  unfold val
  rw [Rat.intCast_mul, Rat.intCast_mul]
  grind
theorem ok__law_over (T : Tx K mg) : FnOk P w K mg base CX0 3 T.a__law_over T.d__law_over p__law_over (sp__law_over K) := by
  refine T.F__law_over.ok sc__law_over (fun vs H Q E h => len__law_over K vs H Q E h) (fun cdv A outer s H vs Q E hr h => ?_)
  exact ⟨t__law_over K, (pss_one (ps_ret (pe_call (ok__law_frac T) (hr.mono (by decide)) rfl T.g__law_frac T.F__law_frac.kp (b__law_frac T) .nil pass0 (pa_cons (pe_op op_mulA (pe_ix ix_seq (pv 0) pe_int (fun _ _ => rfl)) (pe_ix ix_seq (pv 1) pe_int (fun _ _ => rfl))) (pa_cons (pe_op op_mulA (pe_ix ix_seq (pv 0) pe_int (fun _ _ => rfl)) (pe_ix ix_seq (pv 1) pe_int (fun _ _ => rfl))) pa_nil))))), pure__law_over K vs H Q E h⟩
/-! ### _law_cut -/
theorem frow1 {r s : List Fr} (h : [frowD r] = [frowD s]) : r = s := by
  unfold frowD at h
  simp only [List.cons.injEq, PyData.list.injEq, and_true] at h
  exact mapF_inj h
theorem frow2 {r s r' s' : List Fr} (h : [frowD r, frowD s] = [frowD r', frowD s']) : r = r' ∧ s = s' := by
  unfold frowD at h
  simp only [List.cons.injEq, PyData.list.injEq, and_true] at h
  exact ⟨mapF_inj h.1, mapF_inj h.2⟩
/-- what is left of a row without the noughts at its end -/
theorem cut_row {r : List Fr} {m : Nat} (ho : ∀ y ∈ r, FOk y) (hm : m ≤ r.length) (hz : 0 < m → (r.getD (m - 1) (0, 1)).1 ≠ 0) (h0 : ∀ j, m ≤ j → (r.getD j (0, 1)).1 = 0) : (∀ y ∈ r.take m, FOk y) ∧ Tr (r.take m) ∧ ∀ x, pF (r.take m) x = pF r x := by
  refine ⟨fun y hy => ho y (List.mem_of_mem_take hy), fun y hy => ?_, fun x => pF_ext (fun k => ?_) x⟩
  · by_cases q : 0 < m
    · have e : (r.take m).getLast? = some (r.getD (m - 1) (0, 1)) := by
        rw [List.getLast?_eq_getElem?, List.length_take, Nat.min_eq_left hm, List.getElem?_take, if_pos (by omega), List.getD_eq_getElem?_getD, List.getElem?_eq_getElem (by omega)]
        rfl
      rw [e] at hy
      rw [← Option.some.inj hy]
      exact hz q
    · rw [show m = 0 by omega] at hy
      simp at hy
  · by_cases q : k < m
    · rw [List.getD_eq_getElem?_getD, List.getD_eq_getElem?_getD, List.getElem?_take, if_pos q]
    · have e : (r.take m).getD k (0, 1) = (0, 1) := get_out (by rw [List.length_take]; omega)
      have f := ((val_pos (get_ok ho k).1).2.2).mpr (h0 k (by omega))
      rw [e, val_zero, f]

def pre__law_cut : List PyData → Prop := fun ds => ∃ r : List Fr, ds = [frowD r] ∧ r.length ≤ 1000
def post__law_cut : List PyData → PyData → Prop := fun ds d => ∃ (r : List Fr) (m : Nat), ds = [frowD r] ∧ d = frowD (r.take m) ∧ m ≤ r.length ∧ (0 < m → (r.getD (m - 1) (0, 1)).1 ≠ 0) ∧ ∀ j, m ≤ j → (r.getD j (0, 1)).1 = 0
abbrev sp__law_cut (K : PySem.W.Frag) : Sp := SpP K pre__law_cut post__law_cut
theorem len__law_cut (K : PySem.W.Frag) (vs : List V) (H : Hp) (Q : VK) (E : XK) (h : sp__law_cut K vs H Q E) : vs.length = p__law_cut.length := len_P (n := 1) h fun ds hp => by
  obtain ⟨r, e, hl⟩ := hp
  rw [e]; rfl
def t__law_cut (K : PySem.W.Frag) : TS :=
  (tSeq (tAsg (tCB (rLenQ K) (tCons (tVar 0) tNil)) (gName 1))
  (tSeq (tFor (iRng1 (tCons (tCB (rLenQ K) (tCons (tVar 0) tNil)) tNil)) (gName 2) (tIfS (tAnd (tTest (tOp (rI0 fun i j => .bl (decide (j < i))) (tVar 1) (tC (.int 0)))) (tTest (tOp rEq (tOp (rIx K) (tOp (rIx K) (tVar 0) (tOp (rI0 fun i j => .int (i - j)) (tVar 1) (tC (.int 1)))) (tC (.int 0))) (tC (.int 0))))) (tAsg (tOp (rI0 fun i j => .int (i - j)) (tVar 1) (tC (.int 1))) (gName 1)) tNext))
  (tRet (tCB (rListQ K) (tCons (tSl (rSlX2 K) (tVar 0) tNoPart (tPart (tVar 1))) tNil)))))
theorem pure__law_cut (K : PySem.W.Frag) (vs : List V) (H : Hp) (Q : VK) (E : XK) (h : sp__law_cut K vs H Q E) : t__law_cut K { nx := fun _ H' => Q .non H', rt := Q } (L2.start N__law_cut vs) H := body_P h fun B ds hW hp => by
  obtain ⟨r, e, hl⟩ := hp
  subst e
  unfold t__law_cut
  have out : ∀ j, r.length ≤ j → (r.getD j (0, 1)).1 = 0 := fun j hj => by rw [get_out hj]
  refine st_seq (st_asg (ev_cb (ea_cons (ev_var rfl (ea_nil (co_lenL ?_))))))
  rw [List.length_map]
  refine st_seq (st_forR (ea_cons (ev_cb (ea_cons (ev_var rfl (ea_nil (co_lenL (ea_nil ⟨_, rfl, by omega, by first | omega | (simp; omega), fun i L2 Γ2 => ∃ (m : Nat) (s : Sl), L2 = [] ∧ Γ2 = [.d (frowD r), .d (.int (m : Int)), s] ∧ m ≤ r.length ∧ (m + i = r.length ∨ (0 < m → (r.getD (m - 1) (0, 1)).1 ≠ 0)) ∧ ∀ j, m ≤ j → (r.getD j (0, 1)).1 = 0, ⟨r.length, .un, rfl, rfl, Nat.le_refl _, .inl (by omega), out⟩, ?_, ?_⟩))))))))
  · rintro i L2 Γ2 hi ⟨m, s, rfl, rfl, hm, hz, h0⟩
    refine st_if (et_and (et_test (ev_op (ev_var rfl (ev_int (rok_b0 ⟨_, rfl, fun hb => ?_, fun hb => ⟨(fun z => nomatch z), fun _ => st_next ?_⟩⟩))))))
    · have m0 : 0 < m := by
        have := of_decide_eq_true hb
        omega
      have hx : atI (r.map frD) ((m : Int) - 1) = some (frD (r.getD (m - 1) (0, 1))) := by
        rw [show (m : Int) - 1 = ((m - 1 : Nat) : Int) by omega, atI_n, List.getElem?_map, List.getD_eq_getElem?_getD, List.getElem?_eq_getElem (by omega)]
        rfl
      refine et_test (ev_op (ev_op (ev_op (ev_var rfl (ev_op (ev_var rfl (ev_int (rok_i0 (rok_ixsL hx (ev_int (rok_ixsT (d := .int (r.getD (m - 1) (0, 1)).1) rfl (ev_int (rok_eqI ⟨_, rfl, fun hb2 => ?_, fun hb2 => ?_⟩)))))))))))))
      · refine st_asg (ev_op (ev_var rfl (ev_int (rok_i0 ⟨m - 1, .d (.int (i : Int)), rfl, ?_, by omega, ?_, fun j hj => ?_⟩))))
        · rw [show (m : Int) - 1 = ((m - 1 : Nat) : Int) by omega]
          rfl
        · rcases hz with q | q
          · exact .inl (by omega)
          · exact absurd (of_decide_eq_true hb2) (q m0)
        · by_cases q : j = m - 1
          · rw [q]
            exact of_decide_eq_true hb2
          · exact h0 j (by omega)
      · exact st_next ⟨m, .d (.int (i : Int)), rfl, rfl, hm, .inr fun _ => of_decide_eq_false hb2, h0⟩
    · have := of_decide_eq_false hb
      exact ⟨m, .d (.int (i : Int)), rfl, rfl, hm, .inr fun z => by omega, h0⟩
  · rintro L2 Γ2 ⟨m, s, rfl, rfl, hm, hz, h0⟩
    rw [List.length_map, Int.toNat_natCast] at hz
    refine st_ret (ev_new (en_listQ (ev_sl (ev_var rfl (eo_no (eo_some (ev_var rfl ⟨_, rfl, so_lst ⟨_, .inr rfl, ⟨r, m, rfl, ?_, hm, fun z => ?_, h0⟩⟩⟩)))))))
    · have e2 : DL.cutD (r.map frD) none (some (m : Int)) = (r.take m).map frD := by
        unfold DL.cutD
        rw [HT.sIx_none, HT.sIx_nat, List.length_map, Nat.min_eq_left hm, Nat.sub_zero, List.drop_zero, List.map_take]
      rw [e2]
      rfl
    · rcases hz with q | q
      · omega
      · exact q z
theorem ok__law_cut (T : Tx K mg) : FnOk P w K mg base CX0 1 T.a__law_cut T.d__law_cut p__law_cut (sp__law_cut K) := by
  refine T.F__law_cut.ok sc__law_cut (fun vs H Q E h => len__law_cut K vs H Q E h) (fun cdv A outer s H vs Q E hr h => ?_)
  exact ⟨t__law_cut K, (pss_cons (ps_set (i := 1) sc__law_cut.nd rfl (Or.inl rfl) (pe_callB call_len_seq (by rfl) T.n_len (by decide +kernel) (pa_cons (pv 0) pa_nil)))
  (pss_cons (ps_for PassesOwn.never rfl (pi_range1 (by rfl) T.n_range (pa_cons (pe_callB call_len_seq (by rfl) T.n_len (by decide +kernel) (pa_cons (pv 0) pa_nil)) pa_nil)) (pg_name (i := 2) sc__law_cut.nd rfl (Or.inl rfl)) (pss_one (ps_if (PW.pt (pw_and (pt_cmpR op_gt (pv 1) pe_int (nomark _)) (pw_and1 (pt_cmpR op_eq (pe_ix ix_seq (pe_ix ix_seq (pv 0) (pe_op op_sub (pv 1) pe_int) (fun _ _ => rfl)) pe_int (fun _ _ => rfl)) pe_int (nomark _))))) (pss_one (ps_set (i := 1) sc__law_cut.nd rfl (Or.inl rfl) (pe_op op_sub (pv 1) pe_int))) pss_nil)))
  (pss_one (ps_ret (pe_callTy call_list_of (by rfl) T.n_list (by decide +kernel) (pa_cons (pe_slice sl_any (pv 0) po_none (po_some (pv 1))) pa_nil)))))), pure__law_cut K vs H Q E h⟩
/-! ### _law_add -/

def pre__law_add : List PyData → Prop := fun ds => ∃ r s : List Fr, ds = [frowD r, frowD s] ∧ r.length ≤ 400 ∧ s.length ≤ 400 ∧ (∀ a ∈ r, Sm a) ∧ ∀ a ∈ s, Sm a
def post__law_add : List PyData → PyData → Prop := fun ds d => ∃ r s t : List Fr, ds = [frowD r, frowD s] ∧ d = frowD t ∧ (∀ y ∈ t, FOk y) ∧ Tr t ∧ ∀ x, pF t x = pF r x + pF s x
abbrev sp__law_add (K : PySem.W.Frag) : Sp := SpP K pre__law_add post__law_add
theorem len__law_add (K : PySem.W.Frag) (vs : List V) (H : Hp) (Q : VK) (E : XK) (h : sp__law_add K vs H Q E) : vs.length = p__law_add.length := len_P (n := 2) h fun ds hp => by
  obtain ⟨r, s, e, hl, hl2, hr, hs⟩ := hp
  rw [e]; rfl
def t__law_add (K : PySem.W.Frag) : TS :=
  (tSeq (tAsg (tCB rMax2Q (tCons (tCB (rLenQ K) (tCons (tVar 0) tNil)) (tCons (tCB (rLenQ K) (tCons (tVar 1) tNil)) tNil))) (gName 2))
  (tSeq (tAsg (tTup (tCons (tOp (rAddA K) (tCB (rListQ K) (tCons (tVar 0) tNil)) (tOp (rMulA K) (tLst (tCons (tTup (tCons (tC (.int 0)) (tCons (tC (.int 1)) tNil))) tNil)) (tOp (rI0 fun i j => .int (i - j)) (tVar 2) (tCB (rLenQ K) (tCons (tVar 0) tNil))))) (tCons (tOp (rAddA K) (tCB (rListQ K) (tCons (tVar 1) tNil)) (tOp (rMulA K) (tLst (tCons (tTup (tCons (tC (.int 0)) (tCons (tC (.int 1)) tNil))) tNil)) (tOp (rI0 fun i j => .int (i - j)) (tVar 2) (tCB (rLenQ K) (tCons (tVar 1) tNil))))) tNil))) (gTup K 2 (gCons (gName 3) (gCons (gName 4) gNil))))
  (tRet (tCall (sp__law_cut K) [] E0 (tCons (tLc (iRng1 (tCons (tVar 2) tNil)) (gName 5) tYes (tCall (sp__law_plus K) [] E0 (tCons (tOp (rIx K) (tVar 3) (tVar 5)) (tCons (tOp (rIx K) (tVar 4) (tVar 5)) tNil))) [5]) tNil)))))
theorem pure__law_add (K : PySem.W.Frag) (vs : List V) (H : Hp) (Q : VK) (E : XK) (h : sp__law_add K vs H Q E) : t__law_add K { nx := fun _ H' => Q .non H', rt := Q } (L2.start N__law_add vs) H := body_P h fun B ds hW hp => by
  obtain ⟨r, s, e, hl, hl2, hr, hs⟩ := hp
  subst e
  unfold t__law_add
  refine st_seq (st_asg (ev_cb (ea_cons (ev_cb (ea_cons (ev_var rfl (ea_nil (co_lenL (ea_cons (ev_cb (ea_cons (ev_var rfl (ea_nil (co_lenL (ea_nil (co_max ?_))))))))))))))))
  have e1 : (if (((s.map frD).length : Nat) : Int) > (((r.map frD).length : Nat) : Int) then (((s.map frD).length : Nat) : Int) else (((r.map frD).length : Nat) : Int)) = ((max r.length s.length : Nat) : Int) := by
    rw [List.length_map, List.length_map]
    split <;> omega
  rw [e1]
  refine st_seq (st_unpack ?_)
  walk_at "dd"
  refine ⟨_, .inr rfl, ?_⟩
  walk_at "dd"
  refine co_lenL ?_
  walk_at "dd"
  refine ro_repN (by simp; omega) (by simp; omega) (by simp; omega) (ro_catL (by simp; omega) ?_)
  walk_at "dd"
  refine ⟨_, .inr rfl, ?_⟩
  walk_at "dd"
  refine co_lenL ?_
  walk_at "dd"
  refine ro_repN (by simp; omega) (by simp; omega) (by simp; omega) (ro_catL (by simp; omega) ?_)
  rw [pad_eq r (by omega), pad_eq s (by omega)]
  refine ea_nil ⟨by simp, _, rfl, rfl, tg_cons (tg_cons (tg_nil ?_))⟩
  refine st_ret (ev_callP (ea_cons (ev_new (en_lcR (wipe1 5) (ea_cons (ev_var rfl (ea_nil ⟨_, rfl, by omega, by omega, fun i acc => ∃ t : List Fr, acc = t.map frD ∧ PartOk t i fun k => val (r.getD k (0, 1)) + val (s.getD k (0, 1)), ⟨⟨[], rfl, rfl, by simp, fun k hk => absurd hk (by omega)⟩, fun i D d' acc hi hJ hin => ?_⟩, fun acc hJ => ?_⟩)))))))
  · subst hi
    obtain ⟨t, rfl, ht⟩ := hJ
    refine et_yes ⟨fun _ => ?_, fun z => nomatch z⟩
    refine ev_callP ?_
    walk_at "dd"
    refine rok_ixsL (d := frD (r.getD i (0, 1))) (pad_at r (by omega)) ?_
    refine ea_cons ?_
    walk_at "dd"
    refine rok_ixsL (d := frD (s.getD i (0, 1))) (pad_at s (by omega)) (ea_nil ⟨⟨_, _, rfl, sm_getD hr i, sm_getD hs i⟩, fun d ⟨a', x', b, e, ed, f, v⟩ => ?_⟩)
    obtain ⟨rfl, rfl⟩ := frD2_inj e
    subst ed
    exact ⟨t ++ [b], by simp, ht.push f (by rw [v])⟩
  · obtain ⟨t, rfl, ht⟩ := hJ
    rw [Int.toNat_natCast] at ht
    refine ea_nil ⟨⟨t, rfl, by rw [ht.len]; omega⟩, fun d ⟨t', m, e, ed, hm, hz, h0⟩ => ?_⟩
    obtain rfl := frow1 e
    obtain ⟨f1, f2, f3⟩ := cut_row ht.ok hm hz h0
    refine ⟨r, s, _, rfl, ed, f1, f2, fun x => ?_⟩
    rw [f3]
    have := pe_lin (a := 1) (b := 1) (u := rf r) (v := rf s) (w := rf t) (fun k => by
      rw [rf_get, rf_get, rf_get]
      by_cases q : k < max r.length s.length
      · rw [ht.at_ k q]
        grind
      · rw [get_out (u := t) (by rw [ht.len]; omega), get_out (u := r) (by omega), get_out (u := s) (by omega), val_zero]
        grind) x
    unfold pF
    rw [this]
    grind
theorem ok__law_add (T : Tx K mg) : FnOk P w K mg base CX0 4 T.a__law_add T.d__law_add p__law_add (sp__law_add K) := by
  refine T.F__law_add.ok sc__law_add (fun vs H Q E h => len__law_add K vs H Q E h) (fun cdv A outer s H vs Q E hr h => ?_)
  exact ⟨t__law_add K, (pss_cons (ps_set (i := 2) sc__law_add.nd rfl (Or.inl rfl) (pe_callB (call_max2 rfl) (by rfl) T.n_max (by decide +kernel) (pa_cons (pe_callB call_len_seq (by rfl) T.n_len (by decide +kernel) (pa_cons (pv 0) pa_nil)) (pa_cons (pe_callB call_len_seq (by rfl) T.n_len (by decide +kernel) (pa_cons (pv 1) pa_nil)) pa_nil))))
  (pss_cons (ps_asg (pe_tup (pa_cons (pe_op op_addA (pe_callTy call_list_of (by rfl) T.n_list (by decide +kernel) (pa_cons (pv 0) pa_nil)) (pe_op op_mulA (pe_lst (pa_cons (pe_tup (pa_cons pe_int (pa_cons pe_int pa_nil))) pa_nil)) (pe_op op_sub (pv 2) (pe_callB call_len_seq (by rfl) T.n_len (by decide +kernel) (pa_cons (pv 0) pa_nil))))) (pa_cons (pe_op op_addA (pe_callTy call_list_of (by rfl) T.n_list (by decide +kernel) (pa_cons (pv 1) pa_nil)) (pe_op op_mulA (pe_lst (pa_cons (pe_tup (pa_cons pe_int (pa_cons pe_int pa_nil))) pa_nil)) (pe_op op_sub (pv 2) (pe_callB call_len_seq (by rfl) T.n_len (by decide +kernel) (pa_cons (pv 1) pa_nil))))) pa_nil))) (pg_tup (by rfl) (pgs_cons (pg_name (i := 3) sc__law_add.nd rfl (Or.inr rfl)) (pgs_cons (pg_name (i := 4) sc__law_add.nd rfl (Or.inr rfl)) pgs_nil))))
  (pss_one (ps_ret (pe_call (ok__law_cut T) (hr.mono (by decide)) rfl T.g__law_cut T.F__law_cut.kp (b__law_cut T) .nil pass0 (pa_cons (pe_lc (own := [("_law_k", 5)]) (by rfl) sc__law_add.nd (pi_range1 (by rfl) T.n_range (pa_cons (pv 2) pa_nil)) (blkOk_by (own := [("_law_k", 5)]) (N := N__law_add) (sc := defScope s__law_add) (by decide +kernel)) (fun _ _ _ _ _ => pg_name (i := 5) sc__law_add.nd rfl (Or.inl rfl)) (fun _ _ _ _ _ => pts_nil) (fun _ _ _ _ _ => (pe_call (ok__law_plus T) (hr.mono (by decide)) rfl T.g__law_plus T.F__law_plus.kp (b__law_plus T) .nil pass0 (pa_cons (pe_ix ix_seq (pv 3) (pv 5) (fun _ _ => rfl)) (pa_cons (pe_ix ix_seq (pv 4) (pv 5) (fun _ _ => rfl)) pa_nil))))) pa_nil)))))), pure__law_add K vs H Q E h⟩
/-! ### _law_mul -/

def pre__law_mul : List PyData → Prop := fun ds => ∃ (U V : List Int) (S T : Int) (e f : Nat), ds = [frowD (rowS U S), frowD (rowS V T)] ∧ 0 < S ∧ 0 < T ∧ U.length ≤ 100 ∧ V.length ≤ 100 ∧ n1 U < 2 ^ e ∧ n1 V < 2 ^ f ∧ S.natAbs < 2 ^ e ∧ T.natAbs < 2 ^ f ∧ e + f ≤ 4000
def post__law_mul : List PyData → PyData → Prop := fun ds d => ∃ r s t : List Fr, ds = [frowD r, frowD s] ∧ d = frowD t ∧ (∀ y ∈ t, FOk y) ∧ Tr t ∧ ∀ x, pF t x = pF r x * pF s x
abbrev sp__law_mul (K : PySem.W.Frag) : Sp := SpP K pre__law_mul post__law_mul
theorem len__law_mul (K : PySem.W.Frag) (vs : List V) (H : Hp) (Q : VK) (E : XK) (h : sp__law_mul K vs H Q E) : vs.length = p__law_mul.length := len_P (n := 2) h fun ds hp => by
  obtain ⟨U, V, A, T, ee, f, e, hS, hT, hl, hl2, bu, bv, bs, bt, hf⟩ := hp
  rw [e]; rfl
def t__law_mul (K : PySem.W.Frag) : TS :=
  (tSeq (tAsg (tOp (rMulA K) (tLst (tCons (tTup (tCons (tC (.int 0)) (tCons (tC (.int 1)) tNil))) tNil)) (tOp (rAddA K) (tCB (rLenQ K) (tCons (tVar 0) tNil)) (tCB (rLenQ K) (tCons (tVar 1) tNil)))) (gName 2))
  (tSeq (tFor (iRng1 (tCons (tCB (rLenQ K) (tCons (tVar 0) tNil)) tNil)) (gName 3) (tFor (iRng1 (tCons (tCB (rLenQ K) (tCons (tVar 1) tNil)) tNil)) (gName 4) (tAsg (tCall (sp__law_plus K) [] E0 (tCons (tOp (rIx K) (tVar 2) (tOp (rAddA K) (tVar 3) (tVar 4))) (tCons (tCall (sp__law_by K) [] E0 (tCons (tOp (rIx K) (tVar 0) (tVar 3)) (tCons (tOp (rIx K) (tVar 1) (tVar 4)) tNil))) tNil))) (gSub (tVar 2) (tOp (rAddA K) (tVar 3) (tVar 4)) rSetL))))
  (tRet (tCall (sp__law_cut K) [] E0 (tCons (tVar 2) tNil)))))
theorem pure__law_mul (K : PySem.W.Frag) (vs : List V) (H : Hp) (Q : VK) (E : XK) (h : sp__law_mul K vs H Q E) : t__law_mul K { nx := fun _ H' => Q .non H', rt := Q } (L2.start N__law_mul vs) H := body_P h fun B ds hW hp => by
  obtain ⟨U, V, A, T, ee, f, e, hS, hT, hl, hl2, bu, bv, bs, bt, hf⟩ := hp
  subst e
  unfold t__law_mul
  have hST : 0 < A * T := Int.mul_pos hS hT
  have rS := ratInt_ne (a := A) (by omega)
  have rT := ratInt_ne (a := T) (by omega)
  have sST : (A * T).natAbs < 2 ^ 4000 := pow_up (natAbs_mul_lt bs bt) hf
  have pUV : n1 U * n1 V < 2 ^ 4000 := pow_up (mul_bd bu bv) hf
  have bu' := pow_up bu (show ee ≤ 4000 by omega)
  have bv' := pow_up bv (show f ≤ 4000 by omega)
  have bs' := pow_up bs (show ee ≤ 4000 by omega)
  have bt' := pow_up bt (show f ≤ 4000 by omega)
  refine st_seq (st_own (en_rep (ev_lst (ea_cons (ev_tup (ea_cons (ev_int (ea_cons (ev_int (ea_nil ⟨by simp, ea_nil ⟨by simp, ?_⟩⟩))))))))))
  refine ev_op (ev_cb (ea_cons (ev_var rfl (ea_nil (co_lenL (ev_cb (ea_cons (ev_var rfl (ea_nil (co_lenL (ro_add ?_)))))))))))
  rw [List.length_map, List.length_map, rowS_len, rowS_len]
  refine ⟨[.tuple [.int 0, .int 1]], _, rfl, rfl, by omega, by omega, by simp; omega, fun l => ?_⟩
  have e0 : (List.replicate ((U.length : Int) + (V.length : Int)).toNat [PyData.tuple [.int 0, .int 1]]).flatten = (rowS (List.replicate (U.length + V.length) (0 : Int)) (A * T)).map frD := by
    unfold rowS
    rw [List.flatten_replicate_singleton, List.map_replicate, List.map_replicate, fS_zero]
    congr 1
  rw [e0]
  have lenU : (List.map frD (rowS U A)).length = U.length := by rw [List.length_map, rowS_len]
  have lenV : (List.map frD (rowS V T)).length = V.length := by rw [List.length_map, rowS_len]
  refine st_seq (st_forR (ea_cons (ev_cb (ea_cons (ev_var rfl (ea_nil (co_lenL (ea_nil ⟨_, rfl, by omega, by rw [lenU]; omega, fun i L2 Γ2 => ∃ (w : List Int) (s3 s4 : Sl), L2 = [l] ∧ Γ2 = [.d (frowD (rowS U A)), .d (frowD (rowS V T)), .own l ((rowS w (A * T)).map frD), s3, s4] ∧ w.length = U.length + V.length ∧ (∀ x, pI w x = pI (U.take i) x * pI V x) ∧ n1 w ≤ n1 (U.take i) * n1 V, ⟨_, _, _, rfl, rfl, List.length_replicate .., fun x => ?_, ?_⟩, ?_, ?_⟩))))))))
  · rw [List.take_zero]
    show pe (ri (List.replicate _ 0)) x = 0 * _
    unfold ri
    rw [List.map_replicate]
    show pe (List.replicate _ ((0 : Int) : Rat)) x = _
    have z0 : ((0 : Int) : Rat) = 0 := rfl
    rw [z0, pe_zeros, Rat.zero_mul]
  · rw [n1_zeros]
    exact Nat.zero_le _
  · rintro i L2 Γ2 hi ⟨w, s3, s4, rfl, rfl, wl, wv, wn⟩
    rw [lenU, Int.toNat_natCast] at hi
    refine st_forR (ea_cons (ev_cb (ea_cons (ev_var rfl (ea_nil (co_lenL (ea_nil ⟨_, rfl, by omega, by rw [lenV]; omega, fun j L3 Γ3 => ∃ (w : List Int) (s4 : Sl), L3 = [l] ∧ Γ3 = [.d (frowD (rowS U A)), .d (frowD (rowS V T)), .own l ((rowS w (A * T)).map frD), .d (.int (i : Int)), s4] ∧ w.length = U.length + V.length ∧ (∀ x, pI w x = pI (U.take i) x * pI V x + ((U.getD i 0 : Int) : Rat) * x ^ i * pI (V.take j) x) ∧ n1 w ≤ n1 (U.take i) * n1 V + (U.getD i 0).natAbs * n1 (V.take j), ⟨w, _, rfl, rfl, wl, fun x => ?_, ?_⟩, ?_, ?_⟩)))))))
    · rw [wv, List.take_zero]
      show _ = _ + _ * (0 : Rat)
      grind
    · rw [List.take_zero]
      show _ ≤ _ + _ * 0
      omega
    · rintro j L3 Γ3 hj ⟨w, s4, rfl, rfl, wl, wv, wn⟩
      rw [lenV, Int.toNat_natCast] at hj
      have hk : i + j < w.length := by omega
      have au : atI (List.map frD (rowS U A)) (i : Int) = some (frD (fS A (U.getD i 0))) := by
        rw [atI_n, List.getElem?_map]
        unfold rowS
        rw [List.getElem?_map, List.getD_eq_getElem?_getD, List.getElem?_eq_getElem hi]
        rfl
      have av : atI (List.map frD (rowS V T)) (j : Int) = some (frD (fS T (V.getD j 0))) := by
        rw [atI_n, List.getElem?_map]
        unfold rowS
        rw [List.getElem?_map, List.getD_eq_getElem?_getD, List.getElem?_eq_getElem hj]
        rfl
      have aw : atI (List.map frD (rowS w (A * T))) ((i : Int) + (j : Int)) = some (frD (fS (A * T) (w.getD (i + j) 0))) := by
        rw [show ((i : Int) + (j : Int)) = ((i + j : Nat) : Int) by omega, atI_n, List.getElem?_map]
        unfold rowS
        rw [List.getElem?_map, List.getD_eq_getElem?_getD, List.getElem?_eq_getElem hk]
        rfl
      have tk := n1_take U i hi
      have tl := n1_take V j hj
      have ul := n1_takele U (i + 1)
      have vl := n1_takele V (j + 1)
      have wb : n1 w < 2 ^ 4000 := by
        refine Nat.lt_of_le_of_lt ?_ pUV
        have h1 := Nat.mul_le_mul_right (n1 V) ul
        have h2 := Nat.mul_le_mul_left (U.getD i 0).natAbs (n1_takele V j)
        rw [tk, Nat.add_mul] at h1
        omega
      have pUj : ((U.getD i 0) * (V.getD j 0)).natAbs < 2 ^ 4000 := by
        rw [Int.natAbs_mul]
        exact Nat.lt_of_le_of_lt (Nat.mul_le_mul (n1_get U i) (n1_get V j)) pUV
      have su := fS_sm hS (Nat.lt_of_le_of_lt (n1_get U i) bu') bs'
      have sv := fS_sm hT (Nat.lt_of_le_of_lt (n1_get V j) bv') bt'
      have sw := fS_sm hST (Nat.lt_of_le_of_lt (n1_get w (i + j)) wb) sST
      have sp := fS_sm hST pUj sST
      have pv : val (fS A (U.getD i 0)) * val (fS T (V.getD j 0)) = ((U.getD i 0 * V.getD j 0 : Int) : Rat) / ((A * T : Int) : Rat) := by
        rw [fS_val, fS_val, Rat.intCast_mul, Rat.intCast_mul]
        grind
      refine st_setOwn rfl (ev_callP (ea_cons (ev_ixOwn rfl (ev_op (ev_var rfl (ev_var rfl (ro_add ⟨_, _, rfl, aw, ea_cons (ev_callP (ea_cons (ev_op (ev_var rfl (ev_var rfl (rok_ixsL au (ea_cons (ev_op (ev_var rfl (ev_var rfl (rok_ixsL av (ea_nil ⟨⟨_, _, rfl, su, sv⟩, fun d ⟨x, y, b, e, ed, fb, vb⟩ => ?_⟩))))))))))))⟩)))))))
      obtain ⟨rfl, rfl⟩ := frD2_inj e
      subst ed
      obtain rfl := fS_eq fb (by rw [vb, pv])
      refine ea_nil ⟨⟨_, _, rfl, sw, sp⟩, fun d ⟨x, y, b, e, ed, fb2, vb2⟩ => ?_⟩
      obtain ⟨rfl, rfl⟩ := frD2_inj e
      subst ed
      obtain rfl := fS_eq (S := A * T) (u := w.getD (i + j) 0 + U.getD i 0 * V.getD j 0) fb2 (by rw [vb2, fS_val, fS_val, Rat.intCast_add]; grind)
      refine ev_op (ev_var rfl (ev_var rfl (ro_add ⟨i + j, by rw [show ((i : Int) + (j : Int)) = ((i + j : Nat) : Int) from (Int.natCast_add i j).symm], by rw [List.length_map, rowS_len]; exact hk, w.set (i + j) (w.getD (i + j) 0 + U.getD i 0 * V.getD j 0), .d (.int (j : Int)), rfl, ?_, by rw [List.length_set]; exact wl, fun x => ?_, ?_⟩)))
      · unfold rowS
        rw [List.map_set, List.map_set]
        rfl
      · have e1 : pI (w.set (i + j) (w.getD (i + j) 0 + U.getD i 0 * V.getD j 0)) x = pI w x + ((U.getD i 0 * V.getD j 0 : Int) : Rat) * x ^ (i + j) := by
          unfold pI
          have := pe_set ((U.getD i 0 * V.getD j 0 : Int) : Rat) x (ri w) (i + j) (by unfold ri; rw [List.length_map]; exact hk)
          rw [← this]
          congr 1
          rw [ri_get]
          unfold ri
          rw [List.map_set, Rat.intCast_add]
        have e2 : pI (V.take (j + 1)) x = pI (V.take j) x + ((V.getD j 0 : Int) : Rat) * x ^ j := by
          have := pe_take x (ri V) j (by unfold ri; rw [List.length_map]; exact hj)
          rw [ri_get] at this
          unfold pI
          unfold ri at this ⊢
          rw [List.map_take, List.map_take]
          exact this
        rw [e1, e2, wv, Rat.intCast_mul, rpow_add]
        grind
      · have e1 := n1_set (U.getD i 0 * V.getD j 0) w (i + j)
        rw [Int.natAbs_mul] at e1
        rw [tl, Nat.mul_add]
        omega
    · rintro L3 Γ3 ⟨w, s4, rfl, rfl, wl, wv, wn⟩
      rw [lenV, Int.toNat_natCast, List.take_length] at wv wn
      refine ⟨w, _, _, rfl, rfl, wl, fun x => ?_, ?_⟩
      · have e2 : pI (U.take (i + 1)) x = pI (U.take i) x + ((U.getD i 0 : Int) : Rat) * x ^ i := by
          have := pe_take x (ri U) i (by unfold ri; rw [List.length_map]; exact hi)
          rw [ri_get] at this
          unfold pI
          unfold ri at this ⊢
          rw [List.map_take, List.map_take]
          exact this
        rw [wv, e2]
        grind
      · have e2 := n1_take U i hi
        rw [e2, Nat.add_mul]
        omega
  · rintro L2 Γ2 ⟨w, s3, s4, rfl, rfl, wl, wv, wn⟩
    rw [lenU, Int.toNat_natCast, List.take_length] at wv wn
    refine st_freeze 2 rfl (by simp) (st_ret (ev_callP (ea_cons (ev_var rfl (ea_nil ⟨⟨rowS w (A * T), rfl, by rw [rowS_len]; omega⟩, fun d ⟨t', m, e, ed, hm, hz, h0⟩ => ?_⟩)))))
    obtain rfl := frow1 e
    obtain ⟨f1, f2, f3⟩ := cut_row (rowS_ok _ _) hm hz h0
    refine ⟨rowS U A, rowS V T, _, rfl, ed, f1, f2, fun x => ?_⟩
    rw [f3, rowS_pF, rowS_pF, rowS_pF, wv, Rat.intCast_mul]
    grind
theorem ok__law_mul (T : Tx K mg) : FnOk P w K mg base CX0 4 T.a__law_mul T.d__law_mul p__law_mul (sp__law_mul K) := by
  refine T.F__law_mul.ok sc__law_mul (fun vs H Q E h => len__law_mul K vs H Q E h) (fun cdv A outer s H vs Q E hr h => ?_)
  exact ⟨t__law_mul K, (pss_cons (ps_set (i := 2) sc__law_mul.nd rfl (Or.inl rfl) (pe_op op_mulA (pe_lst (pa_cons (pe_tup (pa_cons pe_int (pa_cons pe_int pa_nil))) pa_nil)) (pe_op op_addA (pe_callB call_len_seq (by rfl) T.n_len (by decide +kernel) (pa_cons (pv 0) pa_nil)) (pe_callB call_len_seq (by rfl) T.n_len (by decide +kernel) (pa_cons (pv 1) pa_nil)))))
  (pss_cons (ps_for PassesOwn.never rfl (pi_range1 (by rfl) T.n_range (pa_cons (pe_callB call_len_seq (by rfl) T.n_len (by decide +kernel) (pa_cons (pv 0) pa_nil)) pa_nil)) (pg_name (i := 3) sc__law_mul.nd rfl (Or.inl rfl)) (pss_one (ps_for PassesOwn.never rfl (pi_range1 (by rfl) T.n_range (pa_cons (pe_callB call_len_seq (by rfl) T.n_len (by decide +kernel) (pa_cons (pv 1) pa_nil)) pa_nil)) (pg_name (i := 4) sc__law_mul.nd rfl (Or.inl rfl)) (pss_one (ps_asg (pe_call (ok__law_plus T) (hr.mono (by decide)) rfl T.g__law_plus T.F__law_plus.kp (b__law_plus T) .nil pass0 (pa_cons (pe_ix ix_seq (pv 2) (pe_op op_addA (pv 3) (pv 4)) (fun _ _ => rfl)) (pa_cons (pe_call (ok__law_by T) (hr.mono (by decide)) rfl T.g__law_by T.F__law_by.kp (b__law_by T) .nil pass0 (pa_cons (pe_ix ix_seq (pv 0) (pv 3) (fun _ _ => rfl)) (pa_cons (pe_ix ix_seq (pv 1) (pv 4) (fun _ _ => rfl)) pa_nil))) pa_nil))) (pg_sub (pv 2) (pe_op op_addA (pv 3) (pv 4)) set_list))))))
  (pss_one (ps_ret (pe_call (ok__law_cut T) (hr.mono (by decide)) rfl T.g__law_cut T.F__law_cut.kp (b__law_cut T) .nil pass0 (pa_cons (pv 2) pa_nil)))))), pure__law_mul K vs H Q E h⟩
/-! ### _law_thin -/

def pre__law_thin : List PyData → Prop := fun ds => ∃ (us : List (List Int)) (S : Int), ds = [.list ((us.map fun u => rowS u S).map frowD)] ∧ 0 < S ∧ us.length ≤ 20 ∧ (∀ u ∈ us, u.length ≤ 100 ∧ n1 u < 2 ^ 1200) ∧ S.natAbs < 2 ^ 1200 ∧ ∃ u ∈ us, ∃ z ∈ u, z ≠ 0
def post__law_thin : List PyData → PyData → Prop := fun ds d => ∃ rs : List (List Fr), ds = [.list (rs.map frowD)] ∧ ∀ (us : List (List Int)) (S : Int), rs = us.map (fun u => rowS u S) → 0 < S → d = .list ((thinA us).map fun u => .list (u.map .int))
abbrev sp__law_thin (K : PySem.W.Frag) : Sp := SpP K pre__law_thin post__law_thin
theorem len__law_thin (K : PySem.W.Frag) (vs : List V) (H : Hp) (Q : VK) (E : XK) (h : sp__law_thin K vs H Q E) : vs.length = p__law_thin.length := len_P (n := 1) h fun ds hp => by
  obtain ⟨us, S, e, sp, l20, hu, bS, ne0⟩ := hp
  rw [e]; rfl
def t__law_thin (K : PySem.W.Frag) : TS :=
  (tSeq (tAsg (tTup (tCons (tC (.int 1)) (tCons (tC (.int 0)) tNil))) (gTup K 2 (gCons (gName 1) (gCons (gName 2) gNil))))
  (tSeq (tFor (iList K (tVar 0)) (gName 3) (tFor (iList K (tVar 3)) (gName 4) (tAsg (tOp (rMulA K) (tOp rFdA (tVar 1) (tCall (sp__law_common K) [] E0 (tCons (tVar 1) (tCons (tOp (rIx K) (tVar 4) (tC (.int 1))) tNil)))) (tOp (rIx K) (tVar 4) (tC (.int 1)))) (gName 1))))
  (tSeq (tAsg (tLc (iList K (tVar 0)) (gName 3) tYes (tLc (iList K (tVar 3)) (gName 4) tYes (tOp (rMulA K) (tOp (rIx K) (tVar 4) (tC (.int 0))) (tOp rFdA (tVar 1) (tOp (rIx K) (tVar 4) (tC (.int 1))))) [4]) [3]) (gName 5))
  (tSeq (tFor (iList K (tVar 5)) (gName 3) (tFor (iList K (tVar 3)) (gName 4) (tAsg (tCall (sp__law_common K) [] E0 (tCons (tVar 2) (tCons (tVar 4) tNil))) (gName 2))))
  (tRet (tLc (iList K (tVar 5)) (gName 3) tYes (tLc (iList K (tVar 3)) (gName 4) tYes (tOp rFdA (tVar 4) (tVar 2)) [4]) [3]))))))
theorem pure__law_thin (K : PySem.W.Frag) (vs : List V) (H : Hp) (Q : VK) (E : XK) (h : sp__law_thin K vs H Q E) : t__law_thin K { nx := fun _ H' => Q .non H', rt := Q } (L2.start N__law_thin vs) H := body_P h fun B ds hW hp => by
  obtain ⟨us, S, e, sp, l20, hu, bS, ne0⟩ := hp
  subst e
  unfold t__law_thin
  have rowf : ∀ u ∈ us, ∀ x ∈ rowS u S, 0 < x.2 ∧ x.2 ∣ S ∧ x.2.natAbs < 2 ^ 1200 := fun u hm x hx => by
    obtain ⟨k, hk, e1⟩ := at_getD (0, 1) hx
    have f1 := rowS_ok u S x hx
    have v : val x * (S : Rat) = ((u.getD k 0 : Int) : Rat) := by
      have := ratInt_ne (a := S) (by omega)
      rw [← e1, rowS_get, fS_val]
      grind
    obtain ⟨s1, s2, c, _, hc, _⟩ := f1.small (u := u.getD k 0) sp v
    exact ⟨f1.1, ⟨c, hc⟩, Nat.lt_of_le_of_lt s2 bS⟩
  have rlen : ∀ u ∈ us, (rowS u S).length ≤ 100 := fun u hm => by rw [rowS_len]; exact (hu u hm).1
  refine st_seq (st_unpack (ev_tup (ea_cons (ev_int (ea_cons (ev_int (ea_nil ⟨by simp, _, rfl, rfl, tg_cons (tg_cons (tg_nil ?_))⟩)))))))
  refine st_seq (st_forL (ev_var rfl ⟨_, rfl, fun i L2 Γ2 => ∃ (U : Int) (s3 s4 : Sl), L2 = [] ∧ Γ2 = [.d (.list ((us.map fun u => rowS u S).map frowD)), .d (.int U), .d (.int 0), s3, s4, .un] ∧ 0 < U ∧ U ∣ S ∧ (∀ u ∈ us.take i, ∀ x ∈ rowS u S, x.2 ∣ U), ⟨1, .un, .un, rfl, rfl, by decide, ⟨S, by omega⟩, by simp⟩, ?_, ?_⟩))
  · rintro i d' L2 Γ2 g hi ⟨U0, s3, s4, rfl, rfl, hU0, hd0, h0⟩
    obtain ⟨u, hui, rfl⟩ := rowsS_at hi
    have um := List.mem_of_getElem? hui
    refine st_forL (ev_var rfl ⟨(rowS u S).map frD, rfl, fun j L2 Γ2 => ∃ (U : Int) (s4 : Sl), L2 = [] ∧ Γ2 = [.d (.list ((us.map fun u => rowS u S).map frowD)), .d (.int U), .d (.int 0), .d (frowD (rowS u S)), s4, .un] ∧ 0 < U ∧ U ∣ S ∧ (∀ u ∈ us.take i, ∀ x ∈ rowS u S, x.2 ∣ U) ∧ ∀ x ∈ (rowS u S).take j, x.2 ∣ U, ⟨U0, _, rfl, rfl, hU0, hd0, h0, by simp⟩, ?_, ?_⟩)
    · rintro j d' L2 Γ2 g hj ⟨U, s4, rfl, rfl, hU, hd, hb, ha⟩
      obtain ⟨x, hx, rfl⟩ : ∃ x, (rowS u S)[j]? = some x ∧ d' = frD x := map_getG hj
      obtain ⟨x1, x2, x3⟩ := rowf u um x (List.mem_of_getElem? hx)
      have bU : U.natAbs < 2 ^ 1200 := Nat.lt_of_le_of_lt (Nat.le_of_dvd (by omega) (Int.natAbs_dvd_natAbs.mpr hd)) bS
      obtain ⟨t1, t2, t3, t4, t5⟩ := lcm_step hU x1 hd x2
      have gd : ((Nat.gcd U.natAbs x.2.natAbs : Nat) : Int) ∣ U := Int.ofNat_dvd_left.mpr (Nat.gcd_dvd_left _ _)
      have eg := Int.mul_ediv_assoc' x.2 gd
      have b9 : (U / ((Nat.gcd U.natAbs x.2.natAbs : Nat) : Int)).natAbs < 2 ^ 1200 := by
        rw [Int.natAbs_ediv_of_dvd gd]
        exact Nat.lt_of_le_of_lt (Nat.div_le_self _ _) bU
      refine st_asg (ev_op (ev_op (ev_var rfl (ev_callP (ea_cons (ev_var rfl (ea_cons (ev_op (ev_var rfl (ev_int (rok_ixsT (d := .int x.2) rfl (ea_nil ⟨⟨_, _, rfl⟩, fun d ⟨a, b, e, ed⟩ => ?_⟩))))))))))))
      simp only [List.cons.injEq, PyData.int.injEq, and_true] at e
      obtain ⟨rfl, rfl⟩ := e
      subst ed
      refine ro_fdW ⟨t1, ?_⟩ (ev_op (ev_var rfl (ev_int (rok_ixsT (d := .int x.2) rfl (ro_mulW (mulW_of b9 x3 (by decide)) ?_)))))
      · have : (((Nat.gcd U.natAbs x.2.natAbs : Nat) : Int)).natAbs < 2 ^ 1200 := by
          rw [Int.natAbs_natCast]
          exact Nat.lt_of_le_of_lt (Nat.gcd_le_right _ (by omega)) x3
        have := lg this
        omega
      rw [← eg]
      refine ⟨_, .d (frD x), rfl, rfl, t2, t5, fun v hv y hy => Int.dvd_trans (hb v hv y hy) t3, fun y hy => ?_⟩
      · rw [List.take_add_one, hx] at hy
        rcases List.mem_append.mp hy with q | q
        · exact Int.dvd_trans (ha y q) t3
        · rw [List.mem_singleton.mp q]
          exact t4
    · rintro L2 Γ2 ⟨U, s4, rfl, rfl, hU, hd, hb, ha⟩
      rw [List.length_map, List.take_length] at ha
      refine ⟨U, _, _, rfl, rfl, hU, hd, fun v hv => ?_⟩
      rw [List.take_add_one, hui] at hv
      rcases List.mem_append.mp hv with q | q
      · exact hb v q
      · rw [List.mem_singleton.mp q]
        exact ha
  · rintro L2 Γ2 ⟨U, s3, s4, rfl, rfl, hU, hd, ha⟩
    rw [List.length_map, List.length_map, List.take_length] at ha
    have bU : U.natAbs < 2 ^ 1200 := Nat.lt_of_le_of_lt (Nat.le_of_dvd (by omega) (Int.natAbs_dvd_natAbs.mpr hd)) bS
    obtain ⟨c, hc⟩ := hd
    have c0 : 0 < c := by
      rcases Int.lt_trichotomy c 0 with q | q | q
      · have := Int.mul_neg_of_pos_of_neg hU q
        omega
      · rw [q] at hc
        omega
      · exact q
    have lw : ∀ u, (wF U (rowS u S)).length = u.length := fun u => by unfold wF; rw [List.length_map, rowS_len]
    have wu : ∀ u ∈ us, ∀ k, (wF U (rowS u S)).getD k 0 * c = u.getD k 0 := fun u um k => by
      by_cases hk : k < (rowS u S).length
      · have hx : (rowS u S)[k]? = some (rowS u S)[k] := List.getElem?_eq_getElem hk
        have hv : (rowS u S).getD k (0, 1) = (rowS u S)[k] := by rw [List.getD_eq_getElem?_getD, hx]; rfl
        generalize (rowS u S)[k] = x at hx hv
        obtain ⟨m, hm⟩ := ha u um x (List.mem_of_getElem? hx)
        obtain ⟨x1, _, _⟩ := rowf u um x (List.mem_of_getElem? hx)
        have e1 : (wF U (rowS u S)).getD k 0 = x.1 * m := by
          unfold wF
          rw [List.getD_eq_getElem?_getD, List.getElem?_map, hx]
          show x.1 * (U / x.2) = _
          rw [hm, Int.mul_ediv_cancel_left _ (by omega)]
        have v2 : val x = (u.getD k 0 : Int) / (S : Int) := by rw [← hv, rowS_get, fS_val]
        have e2 := (val_eq x1 sp).mp v2
        rw [e1]
        rw [hc, hm] at e2
        have : x.2 * (x.1 * m * c) = x.2 * u.getD k 0 := by
          rw [Int.mul_comm x.2 (u.getD k 0), ← e2]
          grind
        exact Int.eq_of_mul_eq_mul_left (by omega) this
      · rw [rowS_len] at hk
        rw [getD_out (u := wF U (rowS u S)) (by rw [lw]; omega), getD_out (u := u) (by omega)]
        omega
    have bw : ∀ u ∈ us, bd (wF U (rowS u S)) 1200 := fun u um => bd.of_get fun k => by
      have h1 := wu u um k
      have h2 := (n1_bd (hu u um).2).get k
      have : ((wF U (rowS u S)).getD k 0).natAbs ≤ (u.getD k 0).natAbs := by
        rw [← h1, Int.natAbs_mul]
        exact Nat.le_mul_of_pos_right _ (by omega)
      omega
    obtain ⟨ws, hws⟩ : ∃ ws : List (List Int), ws = us.map fun u => wF U (rowS u S) := ⟨_, rfl⟩
    have lens : ws.map List.length = us.map List.length := by
      rw [hws, List.map_map]
      exact List.map_congr_left fun u _ => lw u
    have wat : ∀ k, ws.getD k [] = if k < us.length then wF U (rowS (us.getD k []) S) else [] := fun k => by
      rw [hws, List.getD_eq_getElem?_getD, List.getElem?_map, List.getD_eq_getElem?_getD]
      by_cases q : k < us.length
      · rw [if_pos q, List.getElem?_eq_getElem q]
        rfl
      · rw [if_neg q, List.getElem?_eq_none (by omega)]
        rfl
    have wk : ∀ k j, (ws.getD k []).getD j 0 * c = (us.getD k []).getD j 0 := fun k j => by
      rw [wat]
      by_cases q : k < us.length
      · rw [if_pos q]
        exact wu _ (in_getD q) j
      · rw [if_neg q, get_out (u := us) (by omega), getD_out (u := []) (Nat.zero_le _)]
        omega
    have eqT : thinA ws = thinA us := thinA_eq (a := c) (b := 1) c0 (by decide) lens fun k j => by
      have := wk k j
      rw [Int.mul_comm, this]
      omega
    obtain ⟨w0, hw0, z0, hz0, nz0⟩ : ∃ w ∈ ws, ∃ z ∈ w, z ≠ 0 := by
      obtain ⟨u, um, z, hz, z0⟩ := ne0
      obtain ⟨k, hk⟩ := mem_get hz
      have h1 := wu u um k
      refine ⟨wF U (rowS u S), by rw [hws]; exact List.mem_map.mpr ⟨u, um, rfl⟩, (wF U (rowS u S)).getD k 0, ?_, fun q => ?_⟩
      · refine mem_getD fun q => ?_
        rw [q, Int.zero_mul] at h1
        exact z0 (by rw [← hk, ← h1])
      · rw [q, Int.zero_mul] at h1
        exact z0 (by rw [← hk, ← h1])
    have memw : z0 ∈ ws.flatten := List.mem_flatten.mpr ⟨w0, hw0, hz0⟩
    have bws : ∀ w ∈ ws, bd w 1200 := fun w hw => by
      rw [hws] at hw
      obtain ⟨u, um, rfl⟩ := List.mem_map.mp hw
      exact bw u um
    have gpos := gcdL_pos ⟨_, memw, nz0⟩
    have gz : CDivW 0 ((gcdL ws.flatten : Nat) : Int) := by
      refine ⟨by omega, ?_⟩
      have h1 := Int.natAbs_dvd_natAbs.mpr (gcdL_dvd memw)
      have h2 := Nat.le_of_dvd (by omega) h1
      have := lg (Nat.lt_of_le_of_lt h2 (bws w0 hw0 _ hz0))
      omega
    have lus : ws.length = us.length := by rw [hws, List.length_map]
    have lw100 : ∀ w ∈ ws, w.length ≤ 100 := fun w hw => by
      rw [hws] at hw
      obtain ⟨u, um, rfl⟩ := List.mem_map.mp hw
      rw [lw]
      exact (hu u um).1
    refine st_seq (st_asg (ev_new (en_lcL (wipe1 3) (ev_var rfl ⟨(us.map fun u => rowS u S).map frowD, rfl, by simp; omega, fun i acc => acc = (ws.take i).map fun w => .list (w.map .int), ⟨rfl, fun i D d' acc hi hJ hin => ?_⟩, fun acc hJ => ?_⟩))))
    · obtain ⟨u, hui, rfl⟩ := rowsS_at hi
      have um := List.mem_of_getElem? hui
      refine et_yes ⟨fun _ => ?_, fun z => nomatch z⟩
      refine ev_new (en_lcL (wipe1 4) (ev_var rfl ⟨(rowS u S).map frD, rfl, by rw [List.length_map]; exact Nat.le_trans (rlen u um) (by decide), fun i acc => acc = (((wF U (rowS u S)).take i).map PyData.int), ⟨rfl, fun i D2 d' acc2 hi2 hJ2 hin2 => ?_⟩, fun acc2 hJ2 => ?_⟩))
      · obtain ⟨x, hx, rfl⟩ : ∃ x, (rowS u S)[i]? = some x ∧ d' = frD x := map_getG hi2
        obtain ⟨x1, x2, x3⟩ := rowf u um x (List.mem_of_getElem? hx)
        obtain ⟨m, hm⟩ := ha u um x (List.mem_of_getElem? hx)
        refine et_yes ⟨fun _ => ?_, fun z => nomatch z⟩
        walk_at "dd"
        refine ro_fdW ⟨x1, by have := lg x3; omega⟩ ?_
        have hwi : (wF U (rowS u S))[i]? = some (x.1 * (U / x.2)) := by unfold wF; rw [List.getElem?_map, hx]; rfl
        have q1 : U / x.2 = m := by rw [hm, Int.mul_ediv_cancel_left _ (by omega)]
        have q2 : (U / x.2).natAbs < 2 ^ 1200 := by
          rw [q1]
          have : m.natAbs ≤ U.natAbs := by
            rw [hm, Int.natAbs_mul]
            exact Nat.le_mul_of_pos_left _ (by omega)
          omega
        have q3 : x.1.natAbs < 2 ^ 1200 := by
          have h1 := bw u um _ (List.mem_of_getElem? hwi)
          have m0 : 0 < m := by
            rcases Int.lt_trichotomy m 0 with q | q | q
            · have := Int.mul_neg_of_pos_of_neg x1 q
              omega
            · rw [q] at hm
              omega
            · exact q
          have : x.1.natAbs ≤ (x.1 * (U / x.2)).natAbs := by
            rw [q1, Int.natAbs_mul]
            exact Nat.le_mul_of_pos_right _ (by omega)
          omega
        refine ro_mulW (mulW_of q3 q2 (by decide)) ?_
        subst hJ2
        rw [List.take_add_one, hwi, List.map_append]
        rfl
      · have hwi : ws[i]? = some (wF U (rowS u S)) := by rw [hws, List.getElem?_map, hui]; rfl
        subst hJ
        rw [hJ2, List.length_map, rowS_len, ← lw u, List.take_length]
        show _ = (ws.take (i + 1)).map fun w => PyData.list (w.map .int)
        rw [List.take_add_one, hwi, List.map_append]
        rfl
    · rw [List.length_map, List.length_map, ← lus, List.take_length] at hJ
      subst hJ
      have wsat : ∀ {i : Nat} {d : PyData}, (ws.map fun w => PyData.list (w.map .int))[i]? = some d → ∃ w, ws[i]? = some w ∧ d = .list (w.map .int) := fun {i d} h => by
        rw [List.getElem?_map] at h
        cases e : ws[i]? with
        | none => rw [e] at h; cases h
        | some w => rw [e] at h; exact ⟨w, rfl, (Option.some.inj h).symm⟩
      refine st_seq (st_forL (ev_var rfl ⟨ws.map fun w => .list (w.map .int), rfl, fun i L2 Γ2 => ∃ s3 s4 : Sl, L2 = [] ∧ Γ2 = [.d (.list ((us.map fun u => rowS u S).map frowD)), .d (.int U), .d (.int ((gcdL (ws.take i).flatten : Nat) : Int)), s3, s4, .d (.list (ws.map fun w => .list (w.map .int)))], ⟨_, _, rfl, rfl⟩, ?_, ?_⟩))
      · rintro i d' L2 Γ2 g hi ⟨s3, s4, rfl, rfl⟩
        obtain ⟨w, hwi, rfl⟩ := wsat hi
        refine st_forL (ev_var rfl ⟨w.map .int, rfl, fun j L2 Γ2 => ∃ s4 : Sl, L2 = [] ∧ Γ2 = [.d (.list ((us.map fun u => rowS u S).map frowD)), .d (.int U), .d (.int ((gcdL ((ws.take i).flatten ++ w.take j) : Nat) : Int)), .d (.list (w.map .int)), s4, .d (.list (ws.map fun w => .list (w.map .int)))], ⟨_, rfl, by rw [List.take_zero, List.append_nil]; rfl⟩, ?_, ?_⟩)
        · rintro j d' L2 Γ2 g hj ⟨s4, rfl, rfl⟩
          obtain ⟨x, hx, rfl⟩ : ∃ x, w[j]? = some x ∧ d' = .int x := map_get hj
          refine st_asg (ev_callP ?_)
          walk_at "dd"
          refine ⟨⟨_, _, rfl⟩, fun d ⟨a, b, e, ed⟩ => ⟨.d (.int x), rfl, ?_⟩⟩
          simp only [List.cons.injEq, PyData.int.injEq, and_true] at e
          obtain ⟨rfl, rfl⟩ := e
          subst ed
          have e1 : gcdL ((ws.take i).flatten ++ w.take (j + 1)) = Nat.gcd ((gcdL ((ws.take i).flatten ++ w.take j) : Nat) : Int).natAbs x.natAbs := by
            rw [List.take_add_one, hx, ← List.append_assoc, gcdL_append, Int.natAbs_natCast]
            simp [gcdL]
          rw [e1]
          rfl
        · rintro L2 Γ2 ⟨s4, rfl, rfl⟩
          refine ⟨.d (.list (w.map .int)), s4, rfl, ?_⟩
          rw [List.length_map, List.take_length]
          have e1 : (ws.take (i + 1)).flatten = (ws.take i).flatten ++ w := by
            rw [List.take_add_one, hwi, List.flatten_append]
            simp
          rw [e1]
      · rintro L2 Γ2 ⟨s3, s4, rfl, rfl⟩
        rw [List.length_map, List.take_length]
        refine st_ret (ev_new (en_lcL (wipe1 3) (ev_var rfl ⟨ws.map fun w => .list (w.map .int), rfl, by simp; omega, fun i acc => acc = ((thinA ws).take i).map fun u => .list (u.map .int), ⟨rfl, fun i D d' acc hi hJ hin => ?_⟩, fun acc hJ => ?_⟩)))
        · obtain ⟨w, hwi, rfl⟩ := wsat hi
          refine et_yes ⟨fun _ => ?_, fun z => nomatch z⟩
          refine ev_new (en_lcL (wipe1 4) (ev_var rfl ⟨w.map .int, rfl, by rw [List.length_map]; exact Nat.le_trans (lw100 w (List.mem_of_getElem? hwi)) (by decide), fun j acc => acc = ((w.take j).map fun x => PyData.int (x / ((gcdL ws.flatten : Nat) : Int))), ⟨rfl, fun j D2 d' acc2 hi2 hJ2 hin2 => ?_⟩, fun acc2 hJ2 => ?_⟩))
          · obtain ⟨x, hx, rfl⟩ : ∃ x, w[j]? = some x ∧ d' = .int x := map_get hi2
            refine et_yes ⟨fun _ => ?_, fun z => nomatch z⟩
            refine ev_op (ev_var rfl (ev_var rfl (ro_fdW gz ?_)))
            subst hJ2
            rw [List.take_add_one, hx, List.map_append]
            rfl
          · have e3 : (thinA ws)[i]? = some (w.map fun x => x / ((gcdL ws.flatten : Nat) : Int)) := by
              unfold thinA
              rw [List.getElem?_map, hwi]
              rfl
            rw [hJ2, List.length_map, List.take_length, hJ]
            show _ = ((thinA ws).take (i + 1)).map fun u => PyData.list (u.map .int)
            rw [List.take_add_one, e3, List.map_append]
            show _ = _ ++ [PyData.list ((w.map fun x => x / ((gcdL ws.flatten : Nat) : Int)).map .int)]
            rw [List.map_map]
            rfl
        · refine ⟨us.map fun u => rowS u S, rfl, fun us' S' hr' sp' => ?_⟩
          rw [hJ, List.length_map, List.take_of_length_le (by unfold thinA; rw [List.length_map]; exact Nat.le_refl _), eqT]
          have ll : us'.length = us.length := by
            have := congrArg List.length hr'
            rw [List.length_map, List.length_map] at this
            exact this.symm
          have rk : ∀ k, k < us.length → rowS (us.getD k []) S = rowS (us'.getD k []) S' := fun k hk => by
            have := congrArg (fun l => l[k]?) hr'
            simp only [List.getElem?_map] at this
            rw [List.getElem?_eq_getElem hk, List.getElem?_eq_getElem (by omega)] at this
            rw [List.getD_eq_getElem?_getD, List.getD_eq_getElem?_getD, List.getElem?_eq_getElem hk, List.getElem?_eq_getElem (by omega)]
            exact Option.some.inj this
          have : thinA us = thinA us' := thinA_eq (a := S') (b := S) sp' sp (by
            refine List.ext_getElem? fun k => ?_
            rw [List.getElem?_map, List.getElem?_map]
            by_cases hk : k < us.length
            · have h1 := congrArg List.length (rk k hk)
              rw [rowS_len, rowS_len, List.getD_eq_getElem?_getD, List.getD_eq_getElem?_getD, List.getElem?_eq_getElem hk, List.getElem?_eq_getElem (by omega)] at h1
              rw [List.getElem?_eq_getElem hk, List.getElem?_eq_getElem (by omega)]
              exact congrArg some h1
            · rw [List.getElem?_eq_none (by omega), List.getElem?_eq_none (by omega)]) fun k j => by
            by_cases hk : k < us.length
            · have h1 := congrArg (fun r => val (r.getD j (0, 1))) (rk k hk)
              simp only [rowS_get, fS_val] at h1
              have n1' := ratInt_ne (a := S') (by omega)
              have n2' := ratInt_ne (a := S) (by omega)
              refine Rat.intCast_inj.mp ?_
              rw [Rat.intCast_mul, Rat.intCast_mul]
              grind
            · rw [get_out (u := us) (by omega), get_out (u := us') (by omega), getD_out (u := []) (Nat.zero_le _)]
              omega
          rw [this]

theorem ok__law_thin (T : Tx K mg) : FnOk P w K mg base CX0 2 T.a__law_thin T.d__law_thin p__law_thin (sp__law_thin K) := by
  refine T.F__law_thin.ok sc__law_thin (fun vs H Q E h => len__law_thin K vs H Q E h) (fun cdv A outer s H vs Q E hr h => ?_)
  exact ⟨t__law_thin K, (pss_cons (ps_asg (pe_tup (pa_cons pe_int (pa_cons pe_int pa_nil))) (pg_tup (by rfl) (pgs_cons (pg_name (i := 1) sc__law_thin.nd rfl (Or.inr rfl)) (pgs_cons (pg_name (i := 2) sc__law_thin.nd rfl (Or.inr rfl)) pgs_nil))))
  (pss_cons (ps_for PassesOwn.never rfl (pi_list (pv 0)) (pg_name (i := 3) sc__law_thin.nd rfl (Or.inl rfl)) (pss_one (ps_for PassesOwn.never rfl (pi_list (pv 3)) (pg_name (i := 4) sc__law_thin.nd rfl (Or.inl rfl)) (pss_one (ps_set (i := 1) sc__law_thin.nd rfl (Or.inr rfl) (pe_op op_mulA (pe_op op_fdA (pv 1) (pe_call (ok__law_common T) (hr.mono (by decide)) rfl T.g__law_common T.F__law_common.kp (b__law_common T) .nil pass0 (pa_cons (pv 1) (pa_cons (pe_ix ix_seq (pv 4) pe_int (fun _ _ => rfl)) pa_nil)))) (pe_ix ix_seq (pv 4) pe_int (fun _ _ => rfl))))))))
  (pss_cons (ps_setLc (i := 5) (own := [("_law_row", 3)]) (by rfl) sc__law_thin.nd rfl rfl (sw_true rfl rfl rfl (by decide +kernel)) (pi_list (pv 0)) (blkOk_by (own := [("_law_row", 3)]) (N := N__law_thin) (sc := defScope s__law_thin) (by decide +kernel)) (fun _ _ _ _ _ => pg_name (i := 3) sc__law_thin.nd rfl (Or.inl rfl)) (fun _ _ _ _ _ => pts_nil) (fun _ _ _ _ _ => (pe_lc (own := [("_law_each", 4)]) (by rfl) sc__law_thin.nd (pi_list (pv 3)) (blkOk_by (own := [("_law_each", 4)]) (N := N__law_thin) (sc := sx__law_thin_1) (by decide +kernel)) (fun _ _ _ _ _ => pg_name (i := 4) sc__law_thin.nd rfl (Or.inl rfl)) (fun _ _ _ _ _ => pts_nil) (fun _ _ _ _ _ => (pe_op op_mulA (pe_ix ix_seq (pv 4) pe_int (fun _ _ => rfl)) (pe_op op_fdA (pv 1) (pe_ix ix_seq (pv 4) pe_int (fun _ _ => rfl))))))))
  (pss_cons (ps_for PassesOwn.never rfl (pi_list (pv 5)) (pg_name (i := 3) sc__law_thin.nd rfl (Or.inl rfl)) (pss_one (ps_for PassesOwn.never rfl (pi_list (pv 3)) (pg_name (i := 4) sc__law_thin.nd rfl (Or.inl rfl)) (pss_one (ps_set (i := 2) sc__law_thin.nd rfl (Or.inr rfl) (pe_call (ok__law_common T) (hr.mono (by decide)) rfl T.g__law_common T.F__law_common.kp (b__law_common T) .nil pass0 (pa_cons (pv 2) (pa_cons (pv 4) pa_nil))))))))
  (pss_one (ps_ret (pe_lc (own := [("_law_row", 3)]) (by rfl) sc__law_thin.nd (pi_list (pv 5)) (blkOk_by (own := [("_law_row", 3)]) (N := N__law_thin) (sc := defScope s__law_thin) (by decide +kernel)) (fun _ _ _ _ _ => pg_name (i := 3) sc__law_thin.nd rfl (Or.inl rfl)) (fun _ _ _ _ _ => pts_nil) (fun _ _ _ _ _ => (pe_lc (own := [("_law_each", 4)]) (by rfl) sc__law_thin.nd (pi_list (pv 3)) (blkOk_by (own := [("_law_each", 4)]) (N := N__law_thin) (sc := sx__law_thin_2) (by decide +kernel)) (fun _ _ _ _ _ => pg_name (i := 4) sc__law_thin.nd rfl (Or.inl rfl)) (fun _ _ _ _ _ => pts_nil) (fun _ _ _ _ _ => (pe_op op_fdA (pv 4) (pv 2)))))))))))), pure__law_thin K vs H Q E h⟩
/-! ### _law_weight -/

def pre__law_weight : List PyData → Prop := fun ds => True ∧ ds = []
def post__law_weight : List PyData → PyData → Prop := fun ds d => ∃ x : Fr, d = frD x ∧ Frb x 4 ∧ 0 < x.1
abbrev sp__law_weight (K : PySem.W.Frag) : Sp := SpW K pre__law_weight post__law_weight
theorem len__law_weight (K : PySem.W.Frag) (vs : List V) (H : Hp) (Q : VK) (E : XK) (h : sp__law_weight K vs H Q E) : vs.length = p__law_weight.length := len_W (n := 0) h fun ds hp => by
  obtain ⟨_, e⟩ := hp
  rw [e]; rfl
def t__law_weight (K : PySem.W.Frag) : TS :=
  (tRet (tCall (sp__law_from K) [] E0 (tCons (tVar 0) (tCons (tLst (tCons (tTup (tCons (tC (.int 1)) (tCons (tC (.int 1)) tNil))) (tCons (tTup (tCons (tC (.int 1)) (tCons (tC (.int 1)) tNil))) (tCons (tTup (tCons (tC (.int 2)) (tCons (tC (.int 1)) tNil))) (tCons (tTup (tCons (tC (.int 3)) (tCons (tC (.int 1)) tNil))) (tCons (tTup (tCons (tC (.int 1)) (tCons (tC (.int 2)) tNil))) (tCons (tCall (sp__law_frac K) [] E0 (tCons (tOp (rAddA K) (tC (.int 1)) (tCall (sp__law_pull K) [] E0 (tCons (tVar 0) (tCons (tC (.int 9)) tNil)))) (tCons (tOp (rAddA K) (tC (.int 1)) (tCall (sp__law_pull K) [] E0 (tCons (tVar 0) (tCons (tC (.int 4)) tNil)))) tNil))) tNil))))))) tNil))))
theorem pure__law_weight (K : PySem.W.Frag) (vs : List V) (H : Hp) (Q : VK) (E : XK) (h : sp__law_weight K vs H Q E) : t__law_weight K { nx := fun _ H' => Q .non H', rt := Q } (L2.start N__law_weight vs) H := body_W h (by decide) fun B w ds hp => by
  obtain ⟨_, e⟩ := hp
  subst e
  unfold t__law_weight
  refine st_ret (ev_callW rfl (ea_cons (ev_lst (ea_cons (ev_tup (ea_cons (ev_int (ea_cons (ev_int (ea_nil ⟨by simp, ?_⟩))))))))))
  refine ea_cons (ev_tup (ea_cons (ev_int (ea_cons (ev_int (ea_nil ⟨by simp, ?_⟩))))))
  refine ea_cons (ev_tup (ea_cons (ev_int (ea_cons (ev_int (ea_nil ⟨by simp, ?_⟩))))))
  refine ea_cons (ev_tup (ea_cons (ev_int (ea_cons (ev_int (ea_nil ⟨by simp, ?_⟩))))))
  refine ea_cons (ev_tup (ea_cons (ev_int (ea_cons (ev_int (ea_nil ⟨by simp, ?_⟩))))))
  refine ea_cons (ev_callP (ea_cons (ev_op (ev_int (ev_callW rfl (ea_cons (ev_int (ea_nil ⟨⟨_, rfl, by decide, by decide⟩, fun d ⟨m, a, em, ed, a0, a1⟩ => ?_⟩)))))))) 
  simp only [List.cons.injEq, PyData.int.injEq, and_true] at em
  subst em
  subst ed
  refine ro_add (ea_cons (ev_op (ev_int (ev_callW rfl (ea_cons (ev_int (ea_nil ⟨⟨_, rfl, by decide, by decide⟩, fun d ⟨m, b, em, ed, b0, b1⟩ => ?_⟩)))))))
  simp only [List.cons.injEq, PyData.int.injEq, and_true] at em
  subst em
  subst ed
  have le : (1 + b).natAbs < 2 ^ 9000 := Nat.lt_of_lt_of_le (show (1 + b).natAbs < 2 ^ 4 by omega) (Nat.pow_le_pow_right (by decide) (by decide))
  refine ro_add (ea_nil ⟨⟨_, _, rfl, by omega, le⟩, fun d ⟨n', m', e, x, ed, f, v, q1, q2⟩ => ?_⟩)
  simp only [List.cons.injEq, PyData.int.injEq, and_true] at e
  obtain ⟨rfl, rfl⟩ := e
  subst ed
  have x0 : 0 < x.1 := by
    refine (val_pos f.1).1.mp ?_
    rw [v, Rat.div_def]
    exact Rat.mul_pos (ratInt_pos (by omega)) (Rat.inv_pos.mpr (ratInt_pos (by omega)))
  have fx : Frb x 4 := ⟨f, Nat.lt_of_le_of_lt q1 (by omega), Nat.lt_of_le_of_lt q2 (by omega)⟩
  have ok : ∀ {a b : Int}, FOk (a, b) → a.natAbs < 16 → b.natAbs < 16 → Frb (a, b) 4 := fun f h1 h2 => ⟨f, h1, h2⟩
  refine ea_nil ⟨by simp, ea_nil ⟨⟨_, rfl, by simp, by simp⟩, fun d ⟨xs, ex, hd⟩ => ?_⟩⟩
  simp only [List.cons.injEq, PyData.list.injEq, and_true] at ex
  subst ex
  simp only [List.mem_cons, List.not_mem_nil, or_false] at hd
  rcases hd with rfl | rfl | rfl | rfl | rfl | rfl
  · exact ⟨(1, 1), rfl, ok ⟨by decide, by decide⟩ (by decide) (by decide), by decide⟩
  · exact ⟨(1, 1), rfl, ok ⟨by decide, by decide⟩ (by decide) (by decide), by decide⟩
  · exact ⟨(2, 1), rfl, ok ⟨by decide, by decide⟩ (by decide) (by decide), by decide⟩
  · exact ⟨(3, 1), rfl, ok ⟨by decide, by decide⟩ (by decide) (by decide), by decide⟩
  · exact ⟨(1, 2), rfl, ok ⟨by decide, by decide⟩ (by decide) (by decide), by decide⟩
  · exact ⟨x, rfl, fx, x0⟩
theorem ok__law_weight (T : Tx K mg) : FnOk P w K mg base CX0 3 T.a__law_weight T.d__law_weight p__law_weight (sp__law_weight K) := by
  refine T.F__law_weight.ok sc__law_weight (fun vs H Q E h => len__law_weight K vs H Q E h) (fun cdv A outer s H vs Q E hr h => ?_)
  exact ⟨t__law_weight K, (pss_one (ps_ret (pe_call (ok__law_from T) (hr.mono (by decide)) rfl T.g__law_from T.F__law_from.kp (b__law_from T) .nil pass0 (pa_cons (pv 0) (pa_cons (pe_lst (pa_cons (pe_tup (pa_cons pe_int (pa_cons pe_int pa_nil))) (pa_cons (pe_tup (pa_cons pe_int (pa_cons pe_int pa_nil))) (pa_cons (pe_tup (pa_cons pe_int (pa_cons pe_int pa_nil))) (pa_cons (pe_tup (pa_cons pe_int (pa_cons pe_int pa_nil))) (pa_cons (pe_tup (pa_cons pe_int (pa_cons pe_int pa_nil))) (pa_cons (pe_call (ok__law_frac T) (hr.mono (by decide)) rfl T.g__law_frac T.F__law_frac.kp (b__law_frac T) .nil pass0 (pa_cons (pe_op op_addA pe_int (pe_call (ok__law_pull T) (hr.mono (by decide)) rfl T.g__law_pull T.F__law_pull.kp (b__law_pull T) .nil pass0 (pa_cons (pv 0) (pa_cons pe_int pa_nil)))) (pa_cons (pe_op op_addA pe_int (pe_call (ok__law_pull T) (hr.mono (by decide)) rfl T.g__law_pull T.F__law_pull.kp (b__law_pull T) .nil pass0 (pa_cons (pv 0) (pa_cons pe_int pa_nil)))) pa_nil))) pa_nil))))))) pa_nil))))), pure__law_weight K vs H Q E h⟩
/-! ### _law_stay -/

def pre__law_stay : List PyData → Prop := fun ds => True ∧ ds = []
def post__law_stay : List PyData → PyData → Prop := fun ds d => ∃ x : Fr, d = frD x ∧ Frb x 4 ∧ 0 ≤ x.1
abbrev sp__law_stay (K : PySem.W.Frag) : Sp := SpW K pre__law_stay post__law_stay
theorem len__law_stay (K : PySem.W.Frag) (vs : List V) (H : Hp) (Q : VK) (E : XK) (h : sp__law_stay K vs H Q E) : vs.length = p__law_stay.length := len_W (n := 0) h fun ds hp => by
  obtain ⟨_, e⟩ := hp
  rw [e]; rfl
def t__law_stay (K : PySem.W.Frag) : TS :=
  (tRet (tCall (sp__law_from K) [] E0 (tCons (tVar 0) (tCons (tLst (tCons (tTup (tCons (tC (.int 0)) (tCons (tC (.int 1)) tNil))) (tCons (tTup (tCons (tC (.int 0)) (tCons (tC (.int 1)) tNil))) (tCons (tTup (tCons (tC (.int 1)) (tCons (tC (.int 1)) tNil))) (tCons (tCall (sp__law_weight K) [] E0 (tCons (tVar 0) tNil)) tNil))))) tNil))))
theorem pure__law_stay (K : PySem.W.Frag) (vs : List V) (H : Hp) (Q : VK) (E : XK) (h : sp__law_stay K vs H Q E) : t__law_stay K { nx := fun _ H' => Q .non H', rt := Q } (L2.start N__law_stay vs) H := body_W h (by decide) fun B w ds hp => by
  obtain ⟨_, e⟩ := hp
  subst e
  unfold t__law_stay
  refine st_ret (ev_callW rfl (ea_cons (ev_lst (ea_cons (ev_tup (ea_cons (ev_int (ea_cons (ev_int (ea_nil ⟨by simp, ?_⟩))))))))))
  refine ea_cons (ev_tup (ea_cons (ev_int (ea_cons (ev_int (ea_nil ⟨by simp, ?_⟩))))))
  refine ea_cons (ev_tup (ea_cons (ev_int (ea_cons (ev_int (ea_nil ⟨by simp, ?_⟩))))))
  refine ea_cons (ev_callW rfl (ea_nil ⟨⟨trivial, rfl⟩, fun X ⟨x, ex, fx, x0⟩ => ?_⟩))
  subst ex
  have ok : ∀ {a b : Int}, FOk (a, b) → a.natAbs < 16 → b.natAbs < 16 → Frb (a, b) 4 := fun f h1 h2 => ⟨f, h1, h2⟩
  refine ea_nil ⟨by simp, ea_nil ⟨⟨_, rfl, by simp, by simp⟩, fun d ⟨xs, ex, hd⟩ => ?_⟩⟩
  simp only [List.cons.injEq, PyData.list.injEq, and_true] at ex
  subst ex
  simp only [List.mem_cons, List.not_mem_nil, or_false] at hd
  rcases hd with rfl | rfl | rfl | rfl
  · exact ⟨(0, 1), rfl, ok ⟨by decide, by decide⟩ (by decide) (by decide), by decide⟩
  · exact ⟨(0, 1), rfl, ok ⟨by decide, by decide⟩ (by decide) (by decide), by decide⟩
  · exact ⟨(1, 1), rfl, ok ⟨by decide, by decide⟩ (by decide) (by decide), by decide⟩
  · exact ⟨x, rfl, fx, Int.le_of_lt x0⟩
theorem ok__law_stay (T : Tx K mg) : FnOk P w K mg base CX0 4 T.a__law_stay T.d__law_stay p__law_stay (sp__law_stay K) := by
  refine T.F__law_stay.ok sc__law_stay (fun vs H Q E h => len__law_stay K vs H Q E h) (fun cdv A outer s H vs Q E hr h => ?_)
  exact ⟨t__law_stay K, (pss_one (ps_ret (pe_call (ok__law_from T) (hr.mono (by decide)) rfl T.g__law_from T.F__law_from.kp (b__law_from T) .nil pass0 (pa_cons (pv 0) (pa_cons (pe_lst (pa_cons (pe_tup (pa_cons pe_int (pa_cons pe_int pa_nil))) (pa_cons (pe_tup (pa_cons pe_int (pa_cons pe_int pa_nil))) (pa_cons (pe_tup (pa_cons pe_int (pa_cons pe_int pa_nil))) (pa_cons (pe_call (ok__law_weight T) (hr.mono (by decide)) rfl T.g__law_weight T.F__law_weight.kp (b__law_weight T) .nil pass0 (pa_cons (pv 0) pa_nil)) pa_nil))))) pa_nil))))), pure__law_stay K vs H Q E h⟩
/-! ### _law_line -/

def pre__law_line : List PyData → Prop := fun ds => ∃ m : Int, ds = [.int m] ∧ 0 < m ∧ m ≤ 8
def post__law_line : List PyData → PyData → Prop := fun ds d => ∃ (m : Int) (dd ss : List Fr), ds = [.int m] ∧ d = lineD dd ss ∧ Ln4 dd ss ∧ (dd.length : Int) ≤ m
abbrev sp__law_line (K : PySem.W.Frag) : Sp := SpW K pre__law_line post__law_line
theorem len__law_line (K : PySem.W.Frag) (vs : List V) (H : Hp) (Q : VK) (E : XK) (h : sp__law_line K vs H Q E) : vs.length = p__law_line.length := len_W (n := 1) h fun ds hp => by
  obtain ⟨m, e, m0, m8⟩ := hp
  rw [e]; rfl
def t__law_line (K : PySem.W.Frag) : TS :=
  (tSeq (tAsg (tOp (rAddA K) (tC (.int 1)) (tCall (sp__law_pull K) [] E0 (tCons (tVar 0) (tCons (tVar 1) tNil)))) (gName 2))
  (tSeq (tPar 3 4 (tCons (tLc (iRng1 (tCons (tVar 2) tNil)) (gName 5) tYes (tCall (sp__law_weight K) [] E0 (tCons (tVar 0) tNil)) [5]) (tCons (tLc (iRng1 (tCons (tOp (rI0 fun i j => .int (i - j)) (tVar 2) (tC (.int 1))) tNil)) (gName 5) tYes (tCall (sp__law_weight K) [] E0 (tCons (tVar 0) tNil)) [5]) tNil)))
  (tRet (tTup (tCons (tCB (rTupleQ K) (tCons (tVar 3) tNil)) (tCons (tOp (rAddA K) (tOp (rAddA K) (tTup (tCons (tCall (sp__law_stay K) [] E0 (tCons (tVar 0) tNil)) tNil)) (tCB (rTupleQ K) (tCons (tVar 4) tNil))) (tTup (tCons (tCall (sp__law_stay K) [] E0 (tCons (tVar 0) tNil)) tNil))) tNil))))))
theorem pure__law_line (K : PySem.W.Frag) (vs : List V) (H : Hp) (Q : VK) (E : XK) (h : sp__law_line K vs H Q E) : t__law_line K { nx := fun _ H' => Q .non H', rt := Q } (L2.start N__law_line vs) H := body_W h (by decide) fun B w ds hp => by
  obtain ⟨m, e, m0, m8⟩ := hp
  subst e
  unfold t__law_line
  refine st_seq (st_asg (ev_op (ev_int (ev_callW rfl (ea_cons (ev_var rfl (ea_nil ⟨⟨m, rfl, m0, by omega⟩, fun d ⟨m', z, em, ed, z0, z1⟩ => ?_⟩)))))))
  simp only [List.cons.injEq, PyData.int.injEq, and_true] at em
  subst em
  subst ed
  refine ro_add ?_
  obtain ⟨c, hc⟩ : ∃ c : Nat, 1 + z = (c : Int) := ⟨(1 + z).toNat, by omega⟩
  rw [hc]
  have row : ∀ (i : Nat) (acc : List PyData) (x : Fr), (∃ r : List Fr, acc = r.map frD ∧ r.length = i ∧ ∀ y ∈ r, Frb y 4 ∧ 0 < y.1) → Frb x 4 → 0 < x.1 → ∃ r : List Fr, acc ++ [frD x] = r.map frD ∧ r.length = i + 1 ∧ ∀ y ∈ r, Frb y 4 ∧ 0 < y.1 := fun i acc x ⟨r, ea, lr, hr⟩ hx h0 => by
    refine ⟨r ++ [x], by rw [ea, List.map_append]; rfl, by simp [lr], fun y hy => ?_⟩
    rcases List.mem_append.mp hy with q | q
    · exact hr y q
    · rw [List.mem_singleton.mp q]
      exact ⟨hx, h0⟩
  refine st_seq (st_par (ea_cons (ev_new (en_lcR (wipe1 5) (ea_cons (ev_var rfl (ea_nil ⟨_, rfl, by omega, by omega, fun i acc => ∃ r : List Fr, acc = r.map frD ∧ r.length = i ∧ ∀ y ∈ r, Frb y 4 ∧ 0 < y.1, ⟨⟨[], rfl, rfl, by simp⟩, fun i D d' acc hi hJ hin => ?_⟩, fun acc1 hJ1 => ?_⟩)))))))
  · refine et_yes ⟨fun _ => ?_, fun z => nomatch z⟩
    exact ev_callW rfl (ea_nil ⟨⟨trivial, rfl⟩, fun X ⟨x, ex, hx, x0⟩ => by rw [ex]; exact row i acc x hJ hx x0⟩)
  refine ea_cons (ev_new (en_lcR (wipe1 5) (ea_cons (ev_op (ev_var rfl (ev_int (rok_i0 (ea_nil ⟨_, rfl, by omega, by omega, fun i acc => ∃ r : List Fr, acc = r.map frD ∧ r.length = i ∧ ∀ y ∈ r, Frb y 4 ∧ 0 < y.1, ⟨⟨[], rfl, rfl, by simp⟩, fun i D d' acc hi hJ hin => ?_⟩, fun acc2 hJ2 => ?_⟩))))))))
  · refine et_yes ⟨fun _ => ?_, fun z => nomatch z⟩
    exact ev_callW rfl (ea_nil ⟨⟨trivial, rfl⟩, fun X ⟨x, ex, hx, x0⟩ => by rw [ex]; exact row i acc x hJ hx x0⟩)
  obtain ⟨dd, rfl, ld, ad⟩ := hJ1
  obtain ⟨rr, rfl, lr, ar⟩ := hJ2
  rw [Int.toNat_natCast] at ld
  rw [show ((c : Int) - 1).toNat = c - 1 by omega] at lr
  refine ea_nil ⟨_, _, rfl, ?_⟩
  refine st_ret (ev_tup (ea_cons (ev_cb (ea_cons (ev_var rfl (ea_nil (co_tupL ?_)))))))
  refine ea_cons (ev_op (ev_op (ev_tup (ea_cons (ev_callW rfl (ea_nil ⟨⟨trivial, rfl⟩, fun X ⟨x, ex, hx, x0⟩ => ea_nil ⟨by simp, ?_⟩⟩))))))
  subst ex
  refine ev_cb (ea_cons (ev_var rfl (ea_nil (co_tupL (ro_catT (by simp; omega) ?_)))))
  refine ev_tup (ea_cons (ev_callW rfl (ea_nil ⟨⟨trivial, rfl⟩, fun Y ⟨y, ey, hy, y0⟩ => ea_nil ⟨by simp, ?_⟩⟩)))
  subst ey
  refine ro_catT (by simp; omega) (ea_nil ⟨by simp, m, dd, [x] ++ rr ++ [y], rfl, by unfold lineD; rw [List.map_append, List.map_append]; rfl, ?_, by omega⟩)
  have b64 : ∀ {w : Fr}, Frb w 4 → w.1 < 18446744073709551616 ∧ w.2 < 18446744073709551616 := fun {w} hw => by
    have h1 := hw.b1
    have h2 := hw.b2
    omega
  have al : ∀ w ∈ [x] ++ rr ++ [y], Frb w 4 ∧ 0 ≤ w.1 := fun w hw => by
    rcases List.mem_append.mp hw with q | q
    · rcases List.mem_append.mp q with q | q
      · rw [List.mem_singleton.mp q]
        exact ⟨hx, x0⟩
      · exact ⟨(ar w q).1, Int.le_of_lt (ar w q).2⟩
    · rw [List.mem_singleton.mp q]
      exact ⟨hy, y0⟩
  refine ⟨⟨by omega, by omega, by simp; omega, fun w hw => ⟨(ad w hw).1.ok, (ad w hw).2, b64 (ad w hw).1⟩, fun w hw => ⟨(al w hw).1.ok, (al w hw).2, b64 (al w hw).1⟩, fun i w h0 h1 hw => ?_⟩, fun w hw => (ad w hw).1, fun w hw => (al w hw).1⟩
  obtain ⟨j, rfl⟩ : ∃ j, i = j + 1 := ⟨i - 1, by omega⟩
  have hj : j < rr.length := by omega
  have e1 : ([x] ++ rr ++ [y])[j + 1]? = rr[j]? := by
    rw [List.append_assoc, List.singleton_append, List.getElem?_cons_succ, List.getElem?_append_left hj]
  rw [e1] at hw
  exact (ar w (List.mem_of_getElem? hw)).2
theorem ok__law_line (T : Tx K mg) : FnOk P w K mg base CX0 5 T.a__law_line T.d__law_line p__law_line (sp__law_line K) := by
  refine T.F__law_line.ok sc__law_line (fun vs H Q E h => len__law_line K vs H Q E h) (fun cdv A outer s H vs Q E hr h => ?_)
  exact ⟨t__law_line K, (pss_cons (ps_set (i := 2) sc__law_line.nd rfl (Or.inl rfl) (pe_op op_addA pe_int (pe_call (ok__law_pull T) (hr.mono (by decide)) rfl T.g__law_pull T.F__law_pull.kp (b__law_pull T) .nil pass0 (pa_cons (pv 0) (pa_cons (pv 1) pa_nil)))))
  (pss_cons (ps_par (by rfl) sc__law_line.nd rfl rfl (by decide) rfl rfl (pa_cons (pe_lc (own := [("_law_k", 5)]) (by rfl) sc__law_line.nd (pi_range1 (by rfl) T.n_range (pa_cons (pv 2) pa_nil)) (blkOk_by (own := [("_law_k", 5)]) (N := N__law_line) (sc := defScope s__law_line) (by decide +kernel)) (fun _ _ _ _ _ => pg_name (i := 5) sc__law_line.nd rfl (Or.inl rfl)) (fun _ _ _ _ _ => pts_nil) (fun _ _ _ _ _ => (pe_call (ok__law_weight T) (hr.mono (by decide)) rfl T.g__law_weight T.F__law_weight.kp (b__law_weight T) .nil pass0 (pa_cons (pv 0) pa_nil)))) (pa_cons (pe_lc (own := [("_law_k", 5)]) (by rfl) sc__law_line.nd (pi_range1 (by rfl) T.n_range (pa_cons (pe_op op_sub (pv 2) pe_int) pa_nil)) (blkOk_by (own := [("_law_k", 5)]) (N := N__law_line) (sc := defScope s__law_line) (by decide +kernel)) (fun _ _ _ _ _ => pg_name (i := 5) sc__law_line.nd rfl (Or.inl rfl)) (fun _ _ _ _ _ => pts_nil) (fun _ _ _ _ _ => (pe_call (ok__law_weight T) (hr.mono (by decide)) rfl T.g__law_weight T.F__law_weight.kp (b__law_weight T) .nil pass0 (pa_cons (pv 0) pa_nil)))) pa_nil)) (by rfl))
  (pss_one (ps_ret (pe_tup (pa_cons (pe_callTy call_tuple_of (by rfl) T.n_tuple (by decide +kernel) (pa_cons (pv 3) pa_nil)) (pa_cons (pe_op op_addA (pe_op op_addA (pe_tup (pa_cons (pe_call (ok__law_stay T) (hr.mono (by decide)) rfl T.g__law_stay T.F__law_stay.kp (b__law_stay T) .nil pass0 (pa_cons (pv 0) pa_nil)) pa_nil)) (pe_callTy call_tuple_of (by rfl) T.n_tuple (by decide +kernel) (pa_cons (pv 4) pa_nil))) (pe_tup (pa_cons (pe_call (ok__law_stay T) (hr.mono (by decide)) rfl T.g__law_stay T.F__law_stay.kp (b__law_stay T) .nil pass0 (pa_cons (pv 0) pa_nil)) pa_nil))) pa_nil))))))), pure__law_line K vs H Q E h⟩
/-! ### _law_run -/

def pre__law_run : List PyData → Prop := fun ds => ∃ dd ss : List Fr, ds = [lineD dd ss] ∧ Ln4 dd ss
def post__law_run : List PyData → PyData → Prop := fun ds d => ∃ (dd ss : List Fr) (rs : List (List Fr)), ds = [lineD dd ss] ∧ d = .list (rs.map frowD) ∧ RunV dd ss rs
abbrev sp__law_run (K : PySem.W.Frag) : Sp := SpP K pre__law_run post__law_run
theorem len__law_run (K : PySem.W.Frag) (vs : List V) (H : Hp) (Q : VK) (E : XK) (h : sp__law_run K vs H Q E) : vs.length = p__law_run.length := len_P (n := 1) h fun ds hp => by
  obtain ⟨dd, ss, e, h⟩ := hp
  rw [e]; rfl
def t__law_run (K : PySem.W.Frag) : TS :=
  (tSeq (tAsg (tVar 0) (gTup K 2 (gCons (gName 1) (gCons (gName 2) gNil))))
  (tSeq (tPar3 3 4 5 (tCons (tLst (tCons (tTup (tCons (tC (.int 1)) (tCons (tC (.int 1)) tNil))) tNil)) (tCons (tCall (sp__law_cut K) [] E0 (tCons (tLst (tCons (tOp (rIx K) (tVar 2) (tC (.int 0))) tNil)) tNil)) (tCons (tLst tNil) tNil))))
  (tSeq (tFor (iRng1 (tCons (tCB (rLenQ K) (tCons (tVar 1) tNil)) tNil)) (gName 6) (tSeq (tDrop (tBM K "list" rAppend (tVar 5) (tCons (tVar 3) tNil)))
  (tSeq (tAsg (tCall (sp__law_add K) [] E0 (tCons (tVar 4) (tCons (tCall (sp__law_mul K) [] E0 (tCons (tLst (tCons (tTup (tCons (tC (.int 0)) (tCons (tC (.int 1)) tNil))) (tCons (tTup (tCons (tOp (rI0 fun i j => .int (i - j)) (tC (.int 0)) (tOp (rIx K) (tOp (rIx K) (tVar 1) (tVar 6)) (tC (.int 0)))) (tCons (tOp (rIx K) (tOp (rIx K) (tVar 1) (tVar 6)) (tC (.int 1))) tNil))) tNil))) (tCons (tVar 3) tNil))) tNil))) (gName 4))
  (tIfS (tTest (tOp (rI0 fun i j => .bl (decide (i < j))) (tOp (rAddA K) (tVar 6) (tC (.int 1))) (tCB (rLenQ K) (tCons (tVar 1) tNil)))) (tAsg (tCall (sp__law_add K) [] E0 (tCons (tVar 3) (tCons (tCall (sp__law_mul K) [] E0 (tCons (tLst (tCons (tCall (sp__law_over K) [] E0 (tCons (tTup (tCons (tC (.int 1)) (tCons (tC (.int 1)) tNil))) (tCons (tOp (rIx K) (tVar 2) (tOp (rAddA K) (tVar 6) (tC (.int 1)))) tNil))) tNil)) (tCons (tVar 4) tNil))) tNil))) (gName 3)) tNext))))
  (tRet (tOp (rAddA K) (tVar 5) (tLst (tCons (tCall (sp__law_add K) [] E0 (tCons (tCall (sp__law_mul K) [] E0 (tCons (tCall (sp__law_cut K) [] E0 (tCons (tLst (tCons (tOp (rIx K) (tVar 2) (tUn (rU fun i => .int (-i)) (tC (.int 1)))) tNil)) tNil)) (tCons (tVar 3) tNil))) (tCons (tVar 4) tNil))) tNil)))))))
theorem pure__law_run (K : PySem.W.Frag) (vs : List V) (H : Hp) (Q : VK) (E : XK) (h : sp__law_run K vs H Q E) : t__law_run K { nx := fun _ H' => Q .non H', rt := Q } (L2.start N__law_run vs) H := body_P h fun B ds hW hp => by
  obtain ⟨dd, ss, e, h⟩ := hp
  subst e
  unfold t__law_run
  have h1 := h.ln.c1
  have h8 := h.ln.c8
  have hlen := h.ln.len
  have dat : ∀ {i : Nat}, i < dd.length → ∃ J : Fr, atI (dd.map frD) (i : Int) = some (frD J) ∧ Frb J 4 ∧ 0 < J.1 ∧ jv dd i = val J := fun {i} hi => by
    have e1 : dd[i]? = some dd[i] := List.getElem?_eq_getElem hi
    refine ⟨dd[i], by rw [atI_n, List.getElem?_map, e1]; rfl, h.d4 _ (List.getElem_mem hi), (h.ln.dok _ (List.getElem_mem hi)).2.1, ?_⟩
    unfold jv
    rw [List.getD_eq_getElem?_getD, e1]
    rfl
  have sat : ∀ {i : Nat}, i < ss.length → ∃ C : Fr, atI (ss.map frD) (i : Int) = some (frD C) ∧ Frb C 4 ∧ (0 < i → i < dd.length → 0 < C.1) ∧ jv ss i = val C ∧ ss[i]? = some C := fun {i} hi => by
    have e1 : ss[i]? = some ss[i] := List.getElem?_eq_getElem hi
    refine ⟨ss[i], by rw [atI_n, List.getElem?_map, e1]; rfl, h.s4 _ (List.getElem_mem hi), fun a b => h.ln.inn i _ a b e1, ?_, e1⟩
    unfold jv
    rw [List.getD_eq_getElem?_getD, e1]
    rfl
  have u12 : ∀ {z : Int} {e : Nat}, z.natAbs < 2 ^ 4 → 4 ≤ e → z.natAbs < 2 ^ e := fun h1 h2 => pow_up h1 h2
  obtain ⟨C0, hC0, fC0, _, eC0, _⟩ := sat (i := 0) (by omega)
  have c02 := fC0.ok.1
  refine st_seq (st_unpack (ev_var rfl ⟨_, rfl, rfl, tg_cons (tg_cons (tg_nil ?_))⟩))
  refine st_seq (st_par3O (ev_lst (ea_cons (ev_tup (ea_cons (ev_int (ea_cons (ev_int (ea_nil ⟨by simp, ea_nil ⟨by simp, ?_⟩⟩)))))))))
  refine ev_callP (ea_cons (ev_lst (ea_cons (ev_op (ev_var rfl (ev_int (rok_ixsT (d := frD C0) hC0 (ea_nil ⟨by simp, ea_nil ⟨⟨[C0], rfl, by simp⟩, fun d ⟨r, m, e, ed, hm, hz, h0⟩ => en_lst (ea_nil ⟨by simp, fun l => ?_⟩)⟩⟩))))))))
  obtain rfl := frow1 (r := [C0]) (s := r) e
  subst ed
  obtain ⟨f1, f2, f3⟩ := cut_row (r := [C0]) (fun y hy => by rw [List.mem_singleton.mp hy]; exact fC0.ok) hm hz h0
  have t0 := rowS_uniq (U := [C0.1]) (S := C0.2) f1 f2 c02 fun x => by rw [f3, fr_row fC0.ok, rowS_pF]
  rw [t0]
  have a0 : [PyData.tuple [.int 1, .int 1]] = (rowS [C0.2] C0.2).map frD := by
    have := fS_eq (x := (1, 1)) (S := C0.2) (u := C0.2) ⟨by decide, by decide⟩ (by
      have := ratInt_ne (a := C0.2) (by omega)
      show ((1 : Int) : Rat) / ((1 : Int) : Rat) = _
      have o : ((1 : Int) : Rat) = 1 := rfl
      rw [o]
      grind)
    show _ = [frD (fS C0.2 C0.2)]
    rw [← this]
    rfl
  rw [a0]
  refine st_seq (st_forR (ea_cons (ev_cb (ea_cons (ev_var rfl (ea_nil (co_lenT (ea_nil ⟨_, rfl, by omega, by simp; omega, fun i L2 Γ2 => ∃ (U V : List Int) (S T : Int) (rs : List (List Fr)) (s6 : Sl), L2 = [l] ∧
      Γ2 = [.d (lineD dd ss), .d (.tuple (dd.map frD)), .d (.tuple (ss.map frD)), .d (frowD (rowS U S)), .d (frowD (rowS V T)), .own l (rs.map frowD), s6] ∧ U.getLast? ≠ some 0 ∧ V.getLast? ≠ some 0 ∧ rs.length = i ∧
      (∀ j, j < i → ∃ (U : List Int) (S : Int), rs[j]? = some (rowS U S) ∧ 0 < S ∧ S.natAbs < 2 ^ (10 * j + 4) ∧ (∀ x, pI U x = (S : Rat) * xa (jv dd) (jv ss) x j) ∧ n1 U < 2 ^ (10 * j + 4) ∧ U.length ≤ j + 1 ∧ U.getLast? ≠ some 0) ∧
      (i < dd.length → S = T ∧ Two (10 * i + 4) (i + 1) (fun x => xa (jv dd) (jv ss) x i) (fun x => ya (jv dd) (jv ss) x i) U V S) ∧
      (i = dd.length → ∃ j2 : Int, 0 < j2 ∧ j2.natAbs < 2 ^ 4 ∧ T = S * j2 ∧ 0 < S ∧ (∀ x, pI U x = (S : Rat) * xa (jv dd) (jv ss) x (i - 1)) ∧ (∀ x, pI V x = ((S * j2 : Int) : Rat) * ya (jv dd) (jv ss) x i) ∧ S.natAbs < 2 ^ (10 * (i - 1) + 4) ∧ n1 U < 2 ^ (10 * (i - 1) + 4) ∧ n1 V < 2 ^ (10 * (i - 1) + 9) ∧ U.length ≤ i ∧ V.length ≤ i + 1),
      ⟨_, _, _, _, [], .un, rfl, rfl, ?_, trim_last _, rfl, fun j hj => absurd hj (by omega), fun _ => ⟨rfl, ?_⟩, fun z => by omega⟩, ?_, ?_⟩))))))))
  · simp
    omega
  · have z4 := fC0.b1
    have z5 := fC0.b2
    refine ⟨c02, z5, fun x => ?_, fun x => ?_, ?_, ?_, Nat.le_refl _, ?_⟩
    · rw [pI_one]
      show _ = _ * (1 : Rat)
      grind
    · show pI (trim [C0.1]) x = _ * jv ss 0
      rw [pI_trim, pI_one, eC0]
      have := ratInt_ne (a := C0.2) (by omega)
      unfold val
      grind
    · show C0.2.natAbs + 0 < _
      omega
    · refine Nat.lt_of_le_of_lt (n1_trim _) ?_
      show C0.1.natAbs + 0 < _
      omega
    · have := trim_len [C0.1]
      simpa using this
  · rintro i L2 Γ2 hi ⟨U, V, S, T, rs, s6, rfl, rfl, tU, tV, lrs, hrs, hA, _⟩
    have hi : i < dd.length := by simpa using hi
    obtain ⟨rfl, two⟩ := hA hi
    obtain ⟨J, hJ, fJ, J0, eJ⟩ := dat hi
    have j2 := fJ.ok.1
    have s0 := two.s0
    have e84 : 10 * i + 4 ≤ 84 := by omega
    refine st_seq (st_append rfl (by rw [List.length_map]; omega) (ev_var rfl ?_))
    have effD : [PyData.tuple [.int 0, .int 1], .tuple [.int (0 - J.1), .int J.2]] = (rowS [0, -J.1] J.2).map frD := by
      have := fS_eq (x := (-J.1, J.2)) (S := J.2) (u := -J.1) ⟨j2, by show Nat.gcd (-J.1).natAbs J.2.natAbs = 1; rw [Int.natAbs_neg]; exact fJ.ok.2⟩ rfl
      show _ = [frD (fS J.2 0), frD (fS J.2 (-J.1))]
      rw [← this, fS_zero, Int.zero_sub]
      rfl
    refine st_seq (st_asg (ev_callP ?_))
    walk_at "dd"
    refine ev_callP ?_
    walk_at "dd"
    refine rok_ixsT (d := frD J) hJ ?_
    walk_at "dd"
    refine rok_ixsT (d := frD J) hJ ?_
    walk_at "dd"
    rw [effD]
    refine ⟨⟨[0, -J.1], U, J.2, S, 4, 10 * i + 4, rfl, j2, s0, by show 2 ≤ 100; decide, by have := two.ul; omega, ?_, two.un, fJ.b2, two.sb, by omega⟩, fun d ⟨r, s, t1, e, ed, fo1, tr1, pv1⟩ => ?_⟩
    · show (0 : Int).natAbs + ((-J.1).natAbs + 0) < _
      have := fJ.b1
      rw [Int.natAbs_neg]
      simpa using this
    obtain ⟨rfl, rfl⟩ := frow2 (r := rowS [0, -J.1] J.2) (s := rowS U S) e
    subst ed
    obtain rfl := eff_row fo1 tr1 j2 s0 pv1
    obtain ⟨v1, v2, v3, v4⟩ := tq_val two j2 fJ.b1 fJ.b2
    have n0 : n1 (trim (comb (-J.1) (0 :: U) 0 [])) < 2 ^ 4000 := pow_up (n1_lin (c := 4) (d := 10 * i + 4) (e := 10 * i + 9) (neg_small fJ.b1) (by decide) (by rw [n1_cons]; have := two.un; simpa using this) (Nat.two_pow_pos _) (by omega)) (by omega)
    have l0 : (trim (comb (-J.1) (0 :: U) 0 [])).length ≤ 100 := Nat.le_trans (len_sc _ _) (by have := two.ul; show U.length + 1 ≤ 100; omega)
    refine ea_nil ⟨⟨rowS V S, rowS (trim (comb (-J.1) (0 :: U) 0 [])) (S * J.2), rfl, by rw [rowS_len]; have := two.vl; omega, by rw [rowS_len]; omega, rowS_sm s0 (pow_up two.vn (by omega)) (pow_up two.sb (by omega)), rowS_sm (Int.mul_pos s0 j2) n0 (pow_up v4 (by omega))⟩, fun d ⟨r, s, t2, e, ed, fo2, tr2, pv2⟩ => ?_⟩
    obtain ⟨rfl, rfl⟩ := frow2 (r := rowS V S) (s := rowS (trim (comb (-J.1) (0 :: U) 0 [])) (S * J.2)) e
    subst ed
    obtain rfl := tq_row fo2 tr2 j2 s0 pv2
    have tl : (tqV J.1 J.2 U V).getLast? ≠ some 0 := trim_last _
    have ey : ∀ x, ya (jv dd) (jv ss) x (i + 1) = ya (jv dd) (jv ss) x i - x * ((J.1 : Rat) / (J.2 : Rat)) * xa (jv dd) (jv ss) x i := fun x => by
      rw [ya_succ, eJ]
      rfl
    have push : ∀ j, j < i + 1 → ∃ (U' : List Int) (S' : Int), (rs ++ [rowS U S])[j]? = some (rowS U' S') ∧ 0 < S' ∧ S'.natAbs < 2 ^ (10 * j + 4) ∧ (∀ x, pI U' x = (S' : Rat) * xa (jv dd) (jv ss) x j) ∧ n1 U' < 2 ^ (10 * j + 4) ∧ U'.length ≤ j + 1 ∧ U'.getLast? ≠ some 0 := fun j hj => by
      by_cases q : j < i
      · obtain ⟨U', S', g1, g2⟩ := hrs j q
        exact ⟨U', S', by rw [List.getElem?_append_left (by omega)]; exact g1, g2⟩
      · obtain rfl : j = i := by omega
        exact ⟨U, S, by rw [List.getElem?_append_right (by omega), lrs, Nat.sub_self]; rfl, s0, two.sb, two.uv, two.un, two.ul, tU⟩
    have em : rs.map frowD ++ [frowD (rowS U S)] = (rs ++ [rowS U S]).map frowD := by rw [List.map_append]; rfl
    rw [em]
    refine st_if ?_
    walk_at "dd"
    rw [List.length_map]
    refine ⟨fun hb => ?_, fun hb => ?_⟩
    · have hi2 : i + 1 < dd.length := by
        have := of_decide_eq_true hb
        omega
      obtain ⟨C, hC, fC, C0, eC, _⟩ := sat (i := i + 1) (by omega)
      have c0 := C0 (by omega) hi2
      have c2 := fC.ok.1
      refine st_asg (ev_callP ?_)
      walk_at "dd"
      refine ev_callP ?_
      walk_at "dd"
      refine ev_callP ?_
      walk_at "dd"
      rw [show ((i : Int) + 1) = ((i + 1 : Nat) : Int) by omega]
      refine rok_ixsT (d := frD C) hC ?_
      refine ea_nil ⟨⟨(1, 1), C, rfl, ⟨by decide, by decide, by decide⟩, fC.sm (by decide), c0⟩, fun d ⟨x', y', b, e, ed, fb, vb⟩ => ?_⟩
      have e2 : [frD (1, 1), frD C] = [frD x', frD y'] := e
      obtain ⟨rfl, rfl⟩ := frD2_inj e2
      subst ed
      obtain rfl : b = (C.2, C.1) := FOk.inj fb ⟨c0, by rw [Nat.gcd_comm]; exact fC.ok.2⟩ (by
        rw [vb]
        have q1 := ratInt_ne (a := C.1) (by omega)
        have q2 := ratInt_ne (a := C.2) (by omega)
        unfold val
        have o : ((1 : Int) : Rat) = 1 := rfl
        show ((1 : Int) : Rat) / ((1 : Int) : Rat) / _ = _
        rw [o]
        grind)
      have kD : [frD (C.2, C.1)] = (rowS [C.2] C.1).map frD := by
        have := fS_eq (x := (C.2, C.1)) (S := C.1) (u := C.2) fb rfl
        show _ = [frD (fS C.1 C.2)]
        rw [← this]
      walk_at "dd"
      rw [kD]
      refine ⟨⟨[C.2], tqV J.1 J.2 U V, C.1, S * J.2, 4, 10 * i + 9, rfl, c0, Int.mul_pos s0 j2, by show 1 ≤ 100; decide, by omega, ?_, v2, fC.b1, pow_up v4 (by omega), by omega⟩, fun d ⟨r, s, t3, e, ed, fo3, tr3, pv3⟩ => ?_⟩
      · show C.2.natAbs + 0 < _
        exact fC.b2
      obtain ⟨rfl, rfl⟩ := frow2 (r := rowS [C.2] C.1) (s := rowS (tqV J.1 J.2 U V) (S * J.2)) e
      subst ed
      obtain rfl := sc_row fo3 tr3 c0 (Int.mul_pos s0 j2) pv3
      have n3 : n1 (trim (comb C.2 (tqV J.1 J.2 U V) 0 [])) < 2 ^ 4000 := pow_up (Nat.lt_of_le_of_lt (n1_sc _ _) (mul_bd fC.b2 v2)) (by omega)
      have l3 := len_sc C.2 (tqV J.1 J.2 U V)
      refine ea_nil ⟨⟨rowS U S, rowS (trim (comb C.2 (tqV J.1 J.2 U V) 0 [])) (C.1 * (S * J.2)), rfl, by rw [rowS_len]; have := two.ul; omega, by rw [rowS_len]; omega, rowS_sm s0 (pow_up two.un (by omega)) (pow_up two.sb (by omega)), rowS_sm (Int.mul_pos c0 (Int.mul_pos s0 j2)) n3 (pow_up (natAbs_mul_lt fC.b1 v4) (by omega))⟩, fun d ⟨r, s, t4, e, ed, fo4, tr4, pv4⟩ => ?_⟩
      obtain ⟨rfl, rfl⟩ := frow2 (r := rowS U S) (s := rowS (trim (comb C.2 (tqV J.1 J.2 U V) 0 [])) (C.1 * (S * J.2))) e
      subst ed
      obtain rfl := tn_row fo4 tr4 j2 c0 s0 pv4
      rw [up_row j2 c0 s0 tl]
      refine ⟨_, _, _, _, _, .d (.int (i : Int)), rfl, rfl, trim_last _, trim_last _, by simp [lrs], push, fun _ => ⟨rfl, ?_⟩, fun z => by omega⟩
      have := two_step (a' := fun x => xa (jv dd) (jv ss) x (i + 1)) (t' := fun x => ya (jv dd) (jv ss) x (i + 1)) two j2 fJ.b1 fJ.b2 c0 fC.b1 fC.b2 ey (fun x => by
        show xa (jv dd) (jv ss) x (i + 1) = _
        rw [xa_succ, eC]
        rfl) c2
      rw [show 10 * (i + 1) + 4 = 10 * i + 4 + 10 by omega]
      exact this
    · have hi2 : i + 1 = dd.length := by
        have := of_decide_eq_false hb
        omega
      refine st_next ⟨U, _, S, _, _, .d (.int (i : Int)), rfl, rfl, tU, tl, by simp [lrs], push, fun z => by omega, fun _ => ⟨J.2, j2, fJ.b2, rfl, s0, two.uv, fun x => ?_, two.sb, two.un, v2, two.ul, v3⟩⟩
      rw [v1, ey]
  · rintro L2 Γ2 ⟨U, V, S, T, rs, s6, rfl, rfl, tU, tV, lrs, hrs, _, hB⟩
    have en : (((List.map frD dd).length : Nat) : Int).toNat = dd.length := by simp
    rw [en] at lrs hrs hB
    obtain ⟨j2, jp, jb, rfl, s0, uv, vv, sb, un, vn, ul, vl⟩ := hB rfl
    obtain ⟨n, hn⟩ : ∃ n, dd.length = n + 1 := ⟨dd.length - 1, by omega⟩
    rw [hn] at uv vv sb un vn ul vl
    rw [show n + 1 - 1 = n by omega] at uv sb un vn
    obtain ⟨C, hC, fC, _, eC, sC⟩ := sat (i := n + 1) (by omega)
    have c2 := fC.ok.1
    have atl : atI (ss.map frD) (-1) = some (frD C) := by
      rw [at_last (ss.map frD) (n := n + 1) (by rw [List.length_map]; omega), List.getElem?_map, sC]
      rfl
    refine st_freeze 5 rfl (by simp) (st_ret (ev_op (ev_var rfl (ev_lst (ea_cons (ev_callP (ea_cons (ev_callP (ea_cons (ev_callP (ea_cons (ev_lst (ea_cons (ev_op (ev_var rfl (ev_un (ev_int (uok_neg (rok_ixsT (d := frD C) atl (ea_nil ⟨by simp, ea_nil ⟨⟨[C], rfl, by simp⟩, fun d ⟨r, m, e, ed, hm, hz, h0⟩ => ?_⟩⟩))))))))))))))))))))
    obtain rfl := frow1 (r := [C]) (s := r) e
    subst ed
    obtain ⟨f1, f2, f3⟩ := cut_row (r := [C]) (fun y hy => by rw [List.mem_singleton.mp hy]; exact fC.ok) hm hz h0
    have t0 := rowS_uniq (U := [C.1]) (S := C.2) f1 f2 c2 fun x => by rw [f3, fr_row fC.ok, rowS_pF]
    rw [t0]
    have nC : n1 (trim [C.1]) < 2 ^ 4 := Nat.lt_of_le_of_lt (n1_trim _) (by show C.1.natAbs + 0 < _; exact fC.b1)
    refine ea_cons (ev_var rfl (ea_nil ⟨⟨trim [C.1], U, C.2, S, 4, 10 * n + 4, rfl, c2, s0, by have := trim_len [C.1]; simp at this; omega, by omega, nC, un, fC.b2, sb, by omega⟩, fun d ⟨r, s, t1, e, ed, fo1, tr1, pv1⟩ => ?_⟩))
    obtain ⟨rfl, rfl⟩ := frow2 (r := rowS (trim [C.1]) C.2) (s := rowS U S) e
    subst ed
    obtain rfl := sc_row (k1 := C.1) fo1 tr1 c2 s0 (fun x => by rw [pv1, rowS_pF, rowS_pF, rowS_pF, pI_trim])
    have n3 : n1 (trim (comb C.1 U 0 [])) < 2 ^ 4000 := pow_up (Nat.lt_of_le_of_lt (n1_sc _ _) (mul_bd fC.b1 un)) (by omega)
    have l3 := len_sc C.1 U
    have sj : (S * j2).natAbs < 2 ^ (10 * n + 4 + 4) := natAbs_mul_lt sb jb
    refine ea_cons (ev_var rfl (ea_nil ⟨⟨rowS (trim (comb C.1 U 0 [])) (C.2 * S), rowS V (S * j2), rfl, by rw [rowS_len]; omega, by rw [rowS_len]; omega, rowS_sm (Int.mul_pos c2 s0) n3 (pow_up (natAbs_mul_lt fC.b2 sb) (by omega)), rowS_sm (Int.mul_pos s0 jp) (pow_up vn (by omega)) (pow_up sj (by omega))⟩, fun d ⟨r, s, t2, e, ed, fo2, tr2, pv2⟩ => ?_⟩))
    obtain ⟨rfl, rfl⟩ := frow2 (r := rowS (trim (comb C.1 U 0 [])) (C.2 * S)) (s := rowS V (S * j2)) e
    subst ed
    have W0 : 0 < S * j2 * C.2 := Int.mul_pos (Int.mul_pos s0 jp) c2
    have r1 := ratInt_ne (a := S) (by omega)
    have r2 := ratInt_ne (a := j2) (by omega)
    have r3 := ratInt_ne (a := C.2) (by omega)
    have fin := rowS_uniq (U := comb (C.1 * j2) U C.2 V) (S := S * j2 * C.2) fo2 tr2 W0 fun x => by
      rw [pv2, rowS_pF, rowS_pF, pI_sc, pI_comb, Rat.intCast_mul, Rat.intCast_mul, Rat.intCast_mul, Rat.intCast_mul]
      grind
    rw [fin]
    refine ea_nil ⟨by simp, ro_catL (by simp; omega) ?_⟩
    have em : rs.map frowD ++ [frowD (rowS (trim (comb (C.1 * j2) U C.2 V)) (S * j2 * C.2))] = (rs ++ [rowS (trim (comb (C.1 * j2) U C.2 V)) (S * j2 * C.2)]).map frowD := by rw [List.map_append]; rfl
    refine ⟨dd, ss, _, rfl, congrArg PyData.list em, by simp [lrs], fun j hj => ?_, trim (comb (C.1 * j2) U C.2 V), S * j2 * C.2, ?_, W0, ?_, fun x => ?_, ?_, ?_, trim_last _⟩
    · obtain ⟨U', S', g1, g2⟩ := hrs j hj
      exact ⟨U', S', by rw [List.getElem?_append_left (by omega)]; exact g1, g2⟩
    · rw [List.getElem?_append_right (by omega), lrs, Nat.sub_self]
      rfl
    · rw [hn]
      exact pow_up (natAbs_mul_lt sj fC.b2) (by omega)
    · rw [hn, show n + 1 - 1 = n by omega, pI_trim, pI_comb, uv, vv]
      unfold ea
      rw [eC, Rat.intCast_mul, Rat.intCast_mul, Rat.intCast_mul]
      unfold val
      grind
    · rw [hn]
      have a1 := n1_trim (comb (C.1 * j2) U C.2 V)
      have a2 := n1_comb (C.1 * j2) U C.2 V
      have a3 : (C.1 * j2).natAbs * n1 U < 2 ^ (8 + (10 * n + 4)) := mul_bd (natAbs_mul_lt fC.b1 jb) un
      have a4 : C.2.natAbs * n1 V < 2 ^ (4 + (10 * n + 9)) := mul_bd fC.b2 vn
      have a5 : 2 ^ (8 + (10 * n + 4)) ≤ 2 ^ (10 * n + 13) := Nat.pow_le_pow_right (by decide) (by omega)
      have a6 : 2 ^ (4 + (10 * n + 9)) = 2 ^ (10 * n + 13) := by congr 1; omega
      have a7 : 2 ^ (10 * (n + 1) + 4) = 2 ^ (10 * n + 13) + 2 ^ (10 * n + 13) := by rw [show 10 * (n + 1) + 4 = 10 * n + 13 + 1 by omega, Nat.pow_succ]; omega
      omega
    · rw [hn]
      exact len_lin _ _ _ _ (by omega) vl
theorem ok__law_run (T : Tx K mg) : FnOk P w K mg base CX0 5 T.a__law_run T.d__law_run p__law_run (sp__law_run K) := by
  refine T.F__law_run.ok sc__law_run (fun vs H Q E h => len__law_run K vs H Q E h) (fun cdv A outer s H vs Q E hr h => ?_)
  exact ⟨t__law_run K, (pss_cons (ps_asg (pv 0) (pg_tup (by rfl) (pgs_cons (pg_name (i := 1) sc__law_run.nd rfl (Or.inl rfl)) (pgs_cons (pg_name (i := 2) sc__law_run.nd rfl (Or.inl rfl)) pgs_nil))))
  (pss_cons (ps_par3 (by rfl) sc__law_run.nd rfl rfl rfl (by decide) (by decide) (by decide) rfl rfl rfl (pa_cons (pe_lst (pa_cons (pe_tup (pa_cons pe_int (pa_cons pe_int pa_nil))) pa_nil)) (pa_cons (pe_call (ok__law_cut T) (hr.mono (by decide)) rfl T.g__law_cut T.F__law_cut.kp (b__law_cut T) .nil pass0 (pa_cons (pe_lst (pa_cons (pe_ix ix_seq (pv 2) pe_int (fun _ _ => rfl)) pa_nil)) pa_nil)) (pa_cons (pe_lst pa_nil) pa_nil))) (by rfl))
  (pss_cons (ps_for PassesOwn.never rfl (pi_range1 (by rfl) T.n_range (pa_cons (pe_callB call_len_seq (by rfl) T.n_len (by decide +kernel) (pa_cons (pv 1) pa_nil)) pa_nil)) (pg_name (i := 6) sc__law_run.nd rfl (Or.inl rfl)) (pss_cons (ps_expr (pe_bm PySem.F.plainAttrs_list PySem.F.slot_list_append PySem.F.type_list_append mt_append (pv 5) (pa_cons (pv 3) pa_nil)))
  (pss_cons (ps_set (i := 4) sc__law_run.nd rfl (Or.inl rfl) (pe_call (ok__law_add T) (hr.mono (by decide)) rfl T.g__law_add T.F__law_add.kp (b__law_add T) .nil pass0 (pa_cons (pv 4) (pa_cons (pe_call (ok__law_mul T) (hr.mono (by decide)) rfl T.g__law_mul T.F__law_mul.kp (b__law_mul T) .nil pass0 (pa_cons (pe_lst (pa_cons (pe_tup (pa_cons pe_int (pa_cons pe_int pa_nil))) (pa_cons (pe_tup (pa_cons (pe_op op_sub pe_int (pe_ix ix_seq (pe_ix ix_seq (pv 1) (pv 6) (fun _ _ => rfl)) pe_int (fun _ _ => rfl))) (pa_cons (pe_ix ix_seq (pe_ix ix_seq (pv 1) (pv 6) (fun _ _ => rfl)) pe_int (fun _ _ => rfl)) pa_nil))) pa_nil))) (pa_cons (pv 3) pa_nil))) pa_nil))))
  (pss_one (ps_if (pt_cmpR op_lt (pe_op op_addA (pv 6) pe_int) (pe_callB call_len_seq (by rfl) T.n_len (by decide +kernel) (pa_cons (pv 1) pa_nil)) (nomark _)) (pss_one (ps_set (i := 3) sc__law_run.nd rfl (Or.inl rfl) (pe_call (ok__law_add T) (hr.mono (by decide)) rfl T.g__law_add T.F__law_add.kp (b__law_add T) .nil pass0 (pa_cons (pv 3) (pa_cons (pe_call (ok__law_mul T) (hr.mono (by decide)) rfl T.g__law_mul T.F__law_mul.kp (b__law_mul T) .nil pass0 (pa_cons (pe_lst (pa_cons (pe_call (ok__law_over T) (hr.mono (by decide)) rfl T.g__law_over T.F__law_over.kp (b__law_over T) .nil pass0 (pa_cons (pe_tup (pa_cons pe_int (pa_cons pe_int pa_nil))) (pa_cons (pe_ix ix_seq (pv 2) (pe_op op_addA (pv 6) pe_int) (fun _ _ => rfl)) pa_nil))) pa_nil)) (pa_cons (pv 4) pa_nil))) pa_nil))))) pss_nil)))))
  (pss_one (ps_ret (pe_op op_addA (pv 5) (pe_lst (pa_cons (pe_call (ok__law_add T) (hr.mono (by decide)) rfl T.g__law_add T.F__law_add.kp (b__law_add T) .nil pass0 (pa_cons (pe_call (ok__law_mul T) (hr.mono (by decide)) rfl T.g__law_mul T.F__law_mul.kp (b__law_mul T) .nil pass0 (pa_cons (pe_call (ok__law_cut T) (hr.mono (by decide)) rfl T.g__law_cut T.F__law_cut.kp (b__law_cut T) .nil pass0 (pa_cons (pe_lst (pa_cons (pe_ix ix_seq (pv 2) (pe_un un_neg pe_int) (fun _ _ => rfl)) pa_nil)) pa_nil)) (pa_cons (pv 3) pa_nil))) (pa_cons (pv 4) pa_nil))) pa_nil)))))))), pure__law_run K vs H Q E h⟩
/-! ### _law_engine -/
theorem cutD_take6 (ds : List PyData) (m : Nat) : DL.cutD ds none (some (m : Int)) = ds.take m := by
  unfold DL.cutD
  rw [HT.sIx_none, HT.sIx_nat]
  show (ds.drop 0).take (min m ds.length - 0) = _
  rw [List.drop_zero, Nat.sub_zero]
  by_cases q : m ≤ ds.length
  · rw [Nat.min_eq_left q]
  · rw [Nat.min_eq_right (by omega), List.take_of_length_le (Nat.le_refl _), List.take_of_length_le (by omega)]
def pre__law_engine : List PyData → Prop := fun ds => ∃ m : Int, ds = [.int m, .int 6] ∧ 0 < m ∧ m ≤ 4
def post__law_engine : List PyData → PyData → Prop := fun ds d => ∃ (dd ss : List Fr) (cs : List Ck), d = engD dd ss cs ∧ Eng dd ss cs
abbrev sp__law_engine (K : PySem.W.Frag) : Sp := SpW K pre__law_engine post__law_engine
theorem len__law_engine (K : PySem.W.Frag) (vs : List V) (H : Hp) (Q : VK) (E : XK) (h : sp__law_engine K vs H Q E) : vs.length = p__law_engine.length := len_W (n := 2) h fun ds hp => by
  obtain ⟨m, e, m0, m4⟩ := hp
  rw [e]; rfl
def t__law_engine (K : PySem.W.Frag) : TS :=
  (tSeq (tPar 3 4 (tCons (tCall (sp__law_line K) [] E0 (tCons (tVar 0) (tCons (tVar 1) tNil))) (tCons (tLst tNil) tNil)))
  (tSeq (tAsg (tLst (tCons (tCall (sp__law_pull K) [] E0 (tCons (tVar 0) (tCons (tC (.int 12)) tNil))) (tCons (tCall (sp__law_pull K) [] E0 (tCons (tVar 0) (tCons (tC (.int 12)) tNil))) tNil))) (gName 5))
  (tSeq (tAsg (tLst (tCons (tLst (tCons (tC (.int 0)) (tCons (tC (.int 4)) (tCons (tC (.int 8)) tNil)))) (tCons (tLst (tCons (tC (.int 0)) (tCons (tC (.int 6)) tNil))) (tCons (tLst (tCons (tC (.int 0)) (tCons (tC (.int 3)) (tCons (tC (.int 6)) (tCons (tC (.int 9)) tNil))))) (tCons (tLst (tCons (tC (.int 0)) (tCons (tC (.int 6)) (tCons (tC (.int 6)) (tCons (tC (.int 0)) tNil))))) (tCons (tLst (tCons (tC (.int 0)) (tCons (tC (.int 2)) (tCons (tC (.int 4)) (tCons (tC (.int 6)) (tCons (tC (.int 8)) (tCons (tC (.int 10)) tNil))))))) (tCons (tLst (tCons (tC (.int 0)) (tCons (tC (.int 1)) (tCons (tC (.int 5)) tNil)))) (tCons (tVar 5) (tCons (tSl (rSlX2 K) (tVar 5) tNoPart (tPart (tC (.int 1)))) tNil))))))))) (gName 6))
  (tSeq (tPar 7 8 (tCons (tSl (rSlX2 K) (tCall (sp__law_from K) [] E0 (tCons (tVar 0) (tCons (tVar 6) tNil))) tNoPart (tPart (tVar 2))) (tCons (tCall (sp__law_pull K) [] E0 (tCons (tVar 0) (tCons (tCB (rLenQ K) (tCons (tOp (rIx K) (tVar 3) (tC (.int 0))) tNil)) tNil))) tNil)))
  (tSeq (tFor (iList K (tVar 7)) (gName 9) (tSeq (tAsg (tIf (tTest (tOp rEq (tCall (sp__law_pull K) [] E0 (tCons (tVar 0) (tCons (tC (.int 2)) tNil))) (tC (.int 0)))) (tVar 8) (tCall (sp__law_pull K) [] E0 (tCons (tVar 0) (tCons (tCB (rLenQ K) (tCons (tOp (rIx K) (tVar 3) (tC (.int 0))) tNil)) tNil)))) (gName 10))
  (tSeq (tAsg (tCall (sp__law_from K) [] E0 (tCons (tVar 0) (tCons (tLst (tCons (tTup (tCons (tC (.int 1)) (tCons (tC (.int 1)) tNil))) (tCons (tTup (tCons (tC (.int 1)) (tCons (tC (.int 1)) tNil))) (tCons (tTup (tCons (tC (.int 1)) (tCons (tC (.int 1)) tNil))) (tCons (tTup (tCons (tOp (rI0 fun i j => .int (i - j)) (tC (.int 0)) (tC (.int 1))) (tCons (tC (.int 1)) tNil))) (tCons (tTup (tCons (tC (.int 2)) (tCons (tC (.int 1)) tNil))) (tCons (tCall (sp__law_weight K) [] E0 (tCons (tVar 0) tNil)) tNil))))))) tNil))) (gName 11))
  (tDrop (tBM K "list" rAppend (tVar 4) (tCons (tTup (tCons (tVar 10) (tCons (tVar 9) (tCons (tVar 11) tNil)))) tNil))))))
  (tRet (tTup (tCons (tVar 3) (tCons (tCB (rTupleQ K) (tCons (tVar 4) tNil)) tNil)))))))))
theorem pure__law_engine (K : PySem.W.Frag) (vs : List V) (H : Hp) (Q : VK) (E : XK) (h : sp__law_engine K vs H Q E) : t__law_engine K { nx := fun _ H' => Q .non H', rt := Q } (L2.start N__law_engine vs) H := body_W h (by decide) fun B w ds hp => by
  obtain ⟨m, e, m0, m4⟩ := hp
  subst e
  unfold t__law_engine
  refine st_seq (st_parDO (ev_callW rfl (ea_cons (ev_var rfl (ea_nil ⟨⟨m, rfl, m0, by omega⟩, fun d ⟨m', dd, ss, em, ed, L4, lm⟩ => en_lst (ea_nil ⟨by simp, fun l => ?_⟩)⟩)))))
  simp only [List.cons.injEq, PyData.int.injEq, and_true] at em
  subst em
  subst ed
  have n1' := L4.ln.c1
  have ld : dd.length ≤ 4 := by omega
  refine st_seq (st_asg (ev_lst (ea_cons (ev_callW rfl (ea_cons (ev_int (ea_nil ⟨⟨12, rfl, by decide, by decide⟩, fun d ⟨m1, a, em, ed, a0, a1⟩ => ?_⟩)))))))
  simp only [List.cons.injEq, PyData.int.injEq, and_true] at em
  subst em
  subst ed
  refine ea_cons (ev_callW rfl (ea_cons (ev_int (ea_nil ⟨⟨12, rfl, by decide, by decide⟩, fun d ⟨m1, b, em, ed, b0, b1⟩ => ea_nil ⟨by simp, ?_⟩⟩))))
  simp only [List.cons.injEq, PyData.int.injEq, and_true] at em
  subst em
  subst ed
  obtain ⟨a', rfl⟩ : ∃ a' : Nat, a = (a' : Int) := ⟨a.toNat, by omega⟩
  obtain ⟨b', rfl⟩ : ∃ b' : Nat, b = (b' : Int) := ⟨b.toNat, by omega⟩
  refine st_seq (st_asg (ev_lst ?_))
  walk_at "dd"
  have c1 : DL.cutD [PyData.int (a' : Int), .int (b' : Int)] none (some 1) = [.int (a' : Int)] := cutD_take6 _ 1
  rw [c1]
  refine st_par (ea_cons (ev_sl (ev_callW rfl (ea_cons (ev_var rfl (ea_nil ⟨⟨_, rfl, by simp, by simp⟩, fun d ⟨xs, ex, hd⟩ => ?_⟩))))))
  simp only [List.cons.injEq, PyData.list.injEq, and_true] at ex
  obtain ⟨ts, rfl, t1, t12⟩ : ∃ ts : List Nat, d = .list (ts.map fun t : Nat => .int (t : Int)) ∧ 1 ≤ ts.length ∧ ∀ t ∈ ts, t < 12 := by
    rw [← ex] at hd
    simp only [List.mem_cons, List.not_mem_nil, or_false] at hd
    rcases hd with rfl | rfl | rfl | rfl | rfl | rfl | rfl | rfl
    · exact ⟨[0, 4, 8], rfl, by decide, by decide⟩
    · exact ⟨[0, 6], rfl, by decide, by decide⟩
    · exact ⟨[0, 3, 6, 9], rfl, by decide, by decide⟩
    · exact ⟨[0, 6, 6, 0], rfl, by decide, by decide⟩
    · exact ⟨[0, 2, 4, 6, 8, 10], rfl, by decide, by decide⟩
    · exact ⟨[0, 1, 5], rfl, by decide, by decide⟩
    · exact ⟨[a', b'], rfl, by show 1 ≤ 2; decide, fun t ht => by simp only [List.mem_cons, List.not_mem_nil, or_false] at ht; omega⟩
    · exact ⟨[a'], rfl, Nat.le_refl _, fun t ht => by simp only [List.mem_cons, List.not_mem_nil, or_false] at ht; omega⟩
  refine eo_no (eo_some (ev_var rfl ⟨_, rfl, so_lst ?_⟩))
  have c6 : DL.cutD (ts.map fun t : Nat => PyData.int (t : Int)) none (some 6) = (ts.map fun t : Nat => PyData.int (t : Int)).take 6 := cutD_take6 _ 6
  rw [c6, ← List.map_take]
  have t1 : 1 ≤ (ts.take 6).length := by rw [List.length_take]; omega
  have t6 : (ts.take 6).length ≤ 6 := by rw [List.length_take]; omega
  have t12 : ∀ t ∈ ts.take 6, t < 12 := fun t ht => t12 t (List.mem_of_mem_take ht)
  generalize ts.take 6 = tt at t1 t6 t12
  refine ea_cons (ev_callW rfl (ea_cons (ev_cb (ea_cons (ev_op (ev_var rfl (ev_int (rok_ixsT (d := .tuple (dd.map frD)) rfl (ea_nil (co_lenT ?_)))))))))) 
  rw [List.length_map]
  refine ea_nil ⟨⟨(dd.length : Int), rfl, by omega, by omega⟩, fun d ⟨m1, s, em, ed, s0, s1⟩ => ?_⟩
  simp only [List.cons.injEq, PyData.int.injEq, and_true] at em
  subst em
  subst ed
  obtain ⟨s', rfl⟩ : ∃ s' : Nat, s = (s' : Int) := ⟨s.toNat, by omega⟩
  refine ea_nil ⟨_, _, rfl, ?_⟩
  refine st_seq (st_forL (ev_var rfl ⟨_, rfl, fun i L2 Γ2 => ∃ (cs : List Ck) (s5 s6 s9 s10 s11 : Sl), L2 = [l] ∧ Γ2 = [.well w, .d (.int m), .d (.int 6), .d (lineD dd ss), .own l (cs.map ckD), s5, s6, .d (.list (tt.map fun t : Nat => .int (t : Int))), .d (.int (s' : Int)), s9, s10, s11] ∧ cs.length = i ∧ (∀ c ∈ cs, c.i < dd.length) ∧ (∀ c ∈ cs, c.t < 12) ∧ (∀ c ∈ cs, FOk c.w) ∧ (∀ c ∈ cs, c.w.1 ≠ 0) ∧ ∀ c ∈ cs, c.w.1.natAbs < 2 ^ 4 ∧ c.w.2.natAbs < 2 ^ 4, ⟨[], _, _, _, _, _, rfl, rfl, rfl, by simp, by simp, by simp, by simp, by simp⟩, ?_, ?_⟩))
  · rintro i d' L2 Γ2 g hi ⟨cs, s5, s6, s9, s10, s11, rfl, rfl, lc, q1, q2, q3, q4, q5⟩
    obtain ⟨t, ht, rfl⟩ : ∃ t, tt[i]? = some t ∧ d' = .int ((t : Nat) : Int) := by
      rw [List.getElem?_map] at hi
      cases q : tt[i]? with
      | none => rw [q] at hi; cases hi
      | some t => rw [q] at hi; exact ⟨t, rfl, (Option.some.inj hi).symm⟩
    have il := (List.getElem?_eq_some_iff.mp ht).1
    have tb := t12 t (List.mem_of_getElem? ht)
    refine st_seq (st_asg (EvP.mono (k := fun d => ∃ k : Nat, d = .int (k : Int) ∧ k < dd.length) ?_ fun d ⟨k, ed, hk⟩ => ?_))
    · refine ev_if (et_test (ev_op (ev_callW rfl (ea_cons (ev_int (ea_nil ⟨⟨2, rfl, by decide, by decide⟩, fun d ⟨m1, z, em, ed, z0, z1⟩ => ?_⟩))))))
      subst ed
      refine ev_int (rok_eqI ⟨_, rfl, fun _ => ?_, fun _ => ?_⟩)
      · exact ev_var rfl ⟨s', rfl, by omega⟩
      · refine ev_callW rfl (ea_cons (ev_cb (ea_cons (ev_op (ev_var rfl (ev_int (rok_ixsT (d := .tuple (dd.map frD)) rfl (ea_nil (co_lenT ?_))))))))) 
        rw [List.length_map]
        refine ea_nil ⟨⟨(dd.length : Int), rfl, by omega, by omega⟩, fun d ⟨m1, s, em, ed, s0, s1⟩ => ?_⟩
        simp only [List.cons.injEq, PyData.int.injEq, and_true] at em
        subst em
        exact ⟨s.toNat, by rw [ed]; congr 1; omega, by omega⟩
    subst ed
    refine st_seq (st_asg (ev_callW rfl (ea_cons (ev_lst (ea_cons (ev_tup (ea_cons (ev_int (ea_cons (ev_int (ea_nil ⟨by simp, ?_⟩)))))))))))
    refine ea_cons (ev_tup (ea_cons (ev_int (ea_cons (ev_int (ea_nil ⟨by simp, ?_⟩))))))
    refine ea_cons (ev_tup (ea_cons (ev_int (ea_cons (ev_int (ea_nil ⟨by simp, ?_⟩))))))
    refine ea_cons (ev_tup (ea_cons (ev_op (ev_int (ev_int (rok_i0 (ea_cons (ev_int (ea_nil ⟨by simp, ?_⟩)))))))))
    refine ea_cons (ev_tup (ea_cons (ev_int (ea_cons (ev_int (ea_nil ⟨by simp, ?_⟩))))))
    refine ea_cons (ev_callW rfl (ea_nil ⟨⟨trivial, rfl⟩, fun X ⟨x, ex, fx, x0⟩ => ?_⟩))
    subst ex
    refine ea_nil ⟨by simp, ea_nil ⟨⟨_, rfl, by simp, by simp⟩, fun d ⟨xs, ex, hd⟩ => ?_⟩⟩
    simp only [List.cons.injEq, PyData.list.injEq, and_true] at ex
    subst ex
    obtain ⟨v, rfl, fv, v0⟩ : ∃ v : Fr, d = frD v ∧ Frb v 4 ∧ v.1 ≠ 0 := by
      have ok : ∀ {a b : Int}, FOk (a, b) → a.natAbs < 16 → b.natAbs < 16 → Frb (a, b) 4 := fun f h1 h2 => ⟨f, h1, h2⟩
      simp only [List.mem_cons, List.not_mem_nil, or_false] at hd
      rcases hd with rfl | rfl | rfl | rfl | rfl | rfl
      · exact ⟨(1, 1), rfl, ok ⟨by decide, by decide⟩ (by decide) (by decide), by decide⟩
      · exact ⟨(1, 1), rfl, ok ⟨by decide, by decide⟩ (by decide) (by decide), by decide⟩
      · exact ⟨(1, 1), rfl, ok ⟨by decide, by decide⟩ (by decide) (by decide), by decide⟩
      · exact ⟨(-1, 1), rfl, ok ⟨by decide, by decide⟩ (by decide) (by decide), by decide⟩
      · exact ⟨(2, 1), rfl, ok ⟨by decide, by decide⟩ (by decide) (by decide), by decide⟩
      · exact ⟨x, rfl, fx, by omega⟩
    refine st_append rfl (by rw [List.length_map]; omega) (ev_tup (ea_cons (ev_var rfl (ea_cons (ev_var rfl (ea_cons (ev_var rfl (ea_nil ⟨by simp, ?_⟩))))))))
    have em : cs.map ckD ++ [PyData.tuple [.int (k : Int), .int (t : Int), frD v]] = (cs ++ [(⟨k, t, v⟩ : Ck)]).map ckD := by rw [List.map_append]; rfl
    rw [em]
    have mem : ∀ {p : Ck → Prop}, (∀ c ∈ cs, p c) → p ⟨k, t, v⟩ → ∀ c ∈ cs ++ [(⟨k, t, v⟩ : Ck)], p c := fun {p} h1 h2 c hc => by
      rcases List.mem_append.mp hc with q | q
      · exact h1 c q
      · rw [List.mem_singleton.mp q]
        exact h2
    exact ⟨_, _, _, .d (.int (t : Int)), _, _, rfl, rfl, by simp [lc], mem q1 hk, mem q2 tb, mem q3 fv.ok, mem q4 v0, mem q5 ⟨fv.b1, fv.b2⟩⟩
  · rintro L2 Γ2 ⟨cs, s5, s6, s9, s10, s11, rfl, rfl, lc, q1, q2, q3, q4, q5⟩
    rw [List.length_map] at lc
    exact st_ret (ev_tup (ea_cons (ev_var rfl (ea_cons (ev_tupOwn rfl (ea_nil ⟨by simp, dd, ss, cs, rfl, L4, ld, by omega, by omega, q1, q2, q3, q4, q5⟩))))))
theorem ok__law_engine (T : Tx K mg) : FnOk P w K mg base CX0 6 T.a__law_engine T.d__law_engine p__law_engine (sp__law_engine K) := by
  refine T.F__law_engine.ok sc__law_engine (fun vs H Q E h => len__law_engine K vs H Q E h) (fun cdv A outer s H vs Q E hr h => ?_)
  exact ⟨t__law_engine K, (pss_cons (ps_par (by rfl) sc__law_engine.nd rfl rfl (by decide) rfl rfl (pa_cons (pe_call (ok__law_line T) (hr.mono (by decide)) rfl T.g__law_line T.F__law_line.kp (b__law_line T) .nil pass0 (pa_cons (pv 0) (pa_cons (pv 1) pa_nil))) (pa_cons (pe_lst pa_nil) pa_nil)) (by rfl))
  (pss_cons (ps_set (i := 5) sc__law_engine.nd rfl (Or.inl rfl) (pe_lst (pa_cons (pe_call (ok__law_pull T) (hr.mono (by decide)) rfl T.g__law_pull T.F__law_pull.kp (b__law_pull T) .nil pass0 (pa_cons (pv 0) (pa_cons pe_int pa_nil))) (pa_cons (pe_call (ok__law_pull T) (hr.mono (by decide)) rfl T.g__law_pull T.F__law_pull.kp (b__law_pull T) .nil pass0 (pa_cons (pv 0) (pa_cons pe_int pa_nil))) pa_nil))))
  (pss_cons (ps_set (i := 6) sc__law_engine.nd rfl (Or.inl rfl) (pe_lst (pa_cons (pe_lst (pa_cons pe_int (pa_cons pe_int (pa_cons pe_int pa_nil)))) (pa_cons (pe_lst (pa_cons pe_int (pa_cons pe_int pa_nil))) (pa_cons (pe_lst (pa_cons pe_int (pa_cons pe_int (pa_cons pe_int (pa_cons pe_int pa_nil))))) (pa_cons (pe_lst (pa_cons pe_int (pa_cons pe_int (pa_cons pe_int (pa_cons pe_int pa_nil))))) (pa_cons (pe_lst (pa_cons pe_int (pa_cons pe_int (pa_cons pe_int (pa_cons pe_int (pa_cons pe_int (pa_cons pe_int pa_nil))))))) (pa_cons (pe_lst (pa_cons pe_int (pa_cons pe_int (pa_cons pe_int pa_nil)))) (pa_cons (pv 5) (pa_cons (pe_slice sl_any (pv 5) po_none (po_some pe_int)) pa_nil))))))))))
  (pss_cons (ps_par (by rfl) sc__law_engine.nd rfl rfl (by decide) rfl rfl (pa_cons (pe_slice sl_any (pe_call (ok__law_from T) (hr.mono (by decide)) rfl T.g__law_from T.F__law_from.kp (b__law_from T) .nil pass0 (pa_cons (pv 0) (pa_cons (pv 6) pa_nil))) po_none (po_some (pv 2))) (pa_cons (pe_call (ok__law_pull T) (hr.mono (by decide)) rfl T.g__law_pull T.F__law_pull.kp (b__law_pull T) .nil pass0 (pa_cons (pv 0) (pa_cons (pe_callB call_len_seq (by rfl) T.n_len (by decide +kernel) (pa_cons (pe_ix ix_seq (pv 3) pe_int (fun _ _ => rfl)) pa_nil)) pa_nil))) pa_nil)) (by rfl))
  (pss_cons (ps_for PassesOwn.never rfl (pi_list (pv 7)) (pg_name (i := 9) sc__law_engine.nd rfl (Or.inl rfl)) (pss_cons (ps_set (i := 10) sc__law_engine.nd rfl (Or.inl rfl) (pe_ifExp (pt_cmpR op_eq (pe_call (ok__law_pull T) (hr.mono (by decide)) rfl T.g__law_pull T.F__law_pull.kp (b__law_pull T) .nil pass0 (pa_cons (pv 0) (pa_cons pe_int pa_nil))) pe_int (nomark _)) (pv 8) (pe_call (ok__law_pull T) (hr.mono (by decide)) rfl T.g__law_pull T.F__law_pull.kp (b__law_pull T) .nil pass0 (pa_cons (pv 0) (pa_cons (pe_callB call_len_seq (by rfl) T.n_len (by decide +kernel) (pa_cons (pe_ix ix_seq (pv 3) pe_int (fun _ _ => rfl)) pa_nil)) pa_nil)))))
  (pss_cons (ps_set (i := 11) sc__law_engine.nd rfl (Or.inl rfl) (pe_call (ok__law_from T) (hr.mono (by decide)) rfl T.g__law_from T.F__law_from.kp (b__law_from T) .nil pass0 (pa_cons (pv 0) (pa_cons (pe_lst (pa_cons (pe_tup (pa_cons pe_int (pa_cons pe_int pa_nil))) (pa_cons (pe_tup (pa_cons pe_int (pa_cons pe_int pa_nil))) (pa_cons (pe_tup (pa_cons pe_int (pa_cons pe_int pa_nil))) (pa_cons (pe_tup (pa_cons (pe_op op_sub pe_int pe_int) (pa_cons pe_int pa_nil))) (pa_cons (pe_tup (pa_cons pe_int (pa_cons pe_int pa_nil))) (pa_cons (pe_call (ok__law_weight T) (hr.mono (by decide)) rfl T.g__law_weight T.F__law_weight.kp (b__law_weight T) .nil pass0 (pa_cons (pv 0) pa_nil)) pa_nil))))))) pa_nil))))
  (pss_one (ps_expr (pe_bm PySem.F.plainAttrs_list PySem.F.slot_list_append PySem.F.type_list_append mt_append (pv 4) (pa_cons (pe_tup (pa_cons (pv 10) (pa_cons (pv 9) (pa_cons (pv 11) pa_nil)))) pa_nil)))))))
  (pss_one (ps_ret (pe_tup (pa_cons (pv 3) (pa_cons (pe_callTy call_tuple_of (by rfl) T.n_tuple (by decide +kernel) (pa_cons (pv 4) pa_nil)) pa_nil)))))))))), pure__law_engine K vs H Q E h⟩
/-! ### _law_twelfths -/

def pre__law_twelfths : List PyData → Prop := fun ds => ∃ n : Int, ds = [.int n]
def post__law_twelfths : List PyData → PyData → Prop := fun ds d => ∃ n : Int, ds = [.int n] ∧ d = .tuple [.int (tw n).1, .int (tw n).2]
abbrev sp__law_twelfths (K : PySem.W.Frag) : Sp := SpP K pre__law_twelfths post__law_twelfths
theorem len__law_twelfths (K : PySem.W.Frag) (vs : List V) (H : Hp) (Q : VK) (E : XK) (h : sp__law_twelfths K vs H Q E) : vs.length = p__law_twelfths.length := len_P (n := 1) h fun ds hp => by
  obtain ⟨n, e⟩ := hp
  rw [e]; rfl
def t__law_twelfths (K : PySem.W.Frag) : TS :=
  (tSeq (tAsg (tLst (tCons (tTup (tCons (tC (.int 2)) (tCons (tC (.int 0)) tNil))) (tCons (tTup (tCons (tC (.int 0)) (tCons (tC (.int 1)) tNil))) (tCons (tTup (tCons (tC (.int 1)) (tCons (tC (.int 0)) tNil))) (tCons (tTup (tCons (tC (.int 0)) (tCons (tC (.int 0)) tNil))) (tCons (tTup (tCons (tOp (rI0 fun i j => .int (i - j)) (tC (.int 0)) (tC (.int 1))) (tCons (tC (.int 0)) tNil))) (tCons (tTup (tCons (tC (.int 0)) (tCons (tOp (rI0 fun i j => .int (i - j)) (tC (.int 0)) (tC (.int 1))) tNil))) tNil))))))) (gName 1))
  (tSeq (tAsg (tOp (rIx K) (tVar 1) (tOp rModA (tCB rIntQ (tCons (tVar 0) tNil)) (tC (.int 6)))) (gName 2))
  (tRet (tIf (tTest (tOp (rI0 fun i j => .bl (decide (i < j))) (tOp rModA (tCB rIntQ (tCons (tVar 0) tNil)) (tC (.int 12))) (tC (.int 6)))) (tVar 2) (tTup (tCons (tOp (rI0 fun i j => .int (i - j)) (tC (.int 0)) (tOp (rIx K) (tVar 2) (tC (.int 0)))) (tCons (tOp (rI0 fun i j => .int (i - j)) (tC (.int 0)) (tOp (rIx K) (tVar 2) (tC (.int 1)))) tNil)))))))
theorem pure__law_twelfths (K : PySem.W.Frag) (vs : List V) (H : Hp) (Q : VK) (E : XK) (h : sp__law_twelfths K vs H Q E) : t__law_twelfths K { nx := fun _ H' => Q .non H', rt := Q } (L2.start N__law_twelfths vs) H := body_P h fun B ds hW hp => by
  obtain ⟨n, e⟩ := hp
  subst e
  unfold t__law_twelfths
  refine st_seq (st_asg (ev_lst (ea_cons (ev_tup (ea_cons (ev_int (ea_cons (ev_int (ea_nil ⟨by simp, ?_⟩)))))))))
  refine ea_cons (ev_tup (ea_cons (ev_int (ea_cons (ev_int (ea_nil ⟨by simp, ?_⟩))))))
  refine ea_cons (ev_tup (ea_cons (ev_int (ea_cons (ev_int (ea_nil ⟨by simp, ?_⟩))))))
  refine ea_cons (ev_tup (ea_cons (ev_int (ea_cons (ev_int (ea_nil ⟨by simp, ?_⟩))))))
  refine ea_cons (ev_tup (ea_cons (ev_op (ev_int (ev_int (rok_i0 (ea_cons (ev_int (ea_nil ⟨by simp, ?_⟩)))))))))
  refine ea_cons (ev_tup (ea_cons (ev_int (ea_cons (ev_op (ev_int (ev_int (rok_i0 (ea_nil ⟨by simp, ea_nil ⟨by simp, ?_⟩⟩)))))))))
  have e0 : [PyData.tuple [.int 2, .int 0], .tuple [.int 0, .int 1], .tuple [.int 1, .int 0], .tuple [.int 0, .int 0], .tuple [.int (0 - 1), .int 0], .tuple [.int 0, .int (0 - 1)]] = (tabP.take 6).map fun p => .tuple [.int p.1, .int p.2] := rfl
  rw [e0]
  have h0 := Int.emod_nonneg n (show (6 : Int) ≠ 0 by decide)
  have h1 := Int.emod_lt_of_pos n (show (0 : Int) < 6 by decide)
  have g0 := Int.emod_nonneg n (show (12 : Int) ≠ 0 by decide)
  have g1 := Int.emod_lt_of_pos n (show (0 : Int) < 12 by decide)
  obtain ⟨m, hm⟩ : ∃ m : Nat, n % 6 = (m : Int) := ⟨(n % 6).toNat, by omega⟩
  obtain ⟨t, ht⟩ : ∃ t : Nat, n % 12 = (t : Int) := ⟨(n % 12).toNat, by omega⟩
  have em : m = t % 6 := by omega
  have key : ∀ t : Nat, t < 12 → tabP.getD t (0, 0) = if t < 6 then tabP.getD (t % 6) (0, 0) else (0 - (tabP.getD (t % 6) (0, 0)).1, 0 - (tabP.getD (t % 6) (0, 0)).2) := by decide
  have ke := key t (by omega)
  have etw : tw n = tabP.getD t (0, 0) := by unfold tw; rw [ht, Int.toNat_natCast]
  have at6 : atI ((tabP.take 6).map fun p => PyData.tuple [.int p.1, .int p.2]) (n % 6) = some (.tuple [.int (tabP.getD m (0, 0)).1, .int (tabP.getD m (0, 0)).2]) := by
    rw [hm, atI_n, List.getElem?_map, List.getElem?_take, if_pos (by omega), List.getD_eq_getElem?_getD, List.getElem?_eq_getElem (by show m < 12; omega)]
    rfl
  refine st_seq (st_asg (ev_op (ev_var rfl (ev_op (ev_cb (ea_cons (ev_var rfl (ea_nil (co_int (ev_int (ro_mod (i := n) (j := 6) (by decide) (rok_ixsL at6 ?_))))))))))))
  refine st_ret (ev_if (et_test (ev_op (ev_op (ev_cb (ea_cons (ev_var rfl (ea_nil (co_int (ev_int (ro_mod (i := n) (j := 12) (by decide) (ev_int (rok_b0 ⟨_, rfl, fun hb => ?_, fun hb => ?_⟩)))))))))))))
  · have q := of_decide_eq_true hb
    rw [if_pos (show t < 6 by omega), ← em] at ke
    exact ev_var rfl ⟨n, rfl, by rw [etw, ke]⟩
  · have q := of_decide_eq_false hb
    rw [if_neg (show ¬ t < 6 by omega), ← em] at ke
    refine ev_tup (ea_cons (ev_op (ev_int (ev_op (ev_var rfl (ev_int (rok_ixsT (d := .int (tabP.getD m (0, 0)).1) rfl (rok_i0 (ea_cons (ev_op (ev_int (ev_op (ev_var rfl (ev_int (rok_ixsT (d := .int (tabP.getD m (0, 0)).2) rfl (rok_i0 (ea_nil ⟨by simp, n, rfl, ?_⟩)))))))))))))))))
    rw [etw, ke]
theorem ok__law_twelfths (T : Tx K mg) : FnOk P w K mg base CX0 1 T.a__law_twelfths T.d__law_twelfths p__law_twelfths (sp__law_twelfths K) := by
  refine T.F__law_twelfths.ok sc__law_twelfths (fun vs H Q E h => len__law_twelfths K vs H Q E h) (fun cdv A outer s H vs Q E hr h => ?_)
  exact ⟨t__law_twelfths K, (pss_cons (ps_set (i := 1) sc__law_twelfths.nd rfl (Or.inl rfl) (pe_lst (pa_cons (pe_tup (pa_cons pe_int (pa_cons pe_int pa_nil))) (pa_cons (pe_tup (pa_cons pe_int (pa_cons pe_int pa_nil))) (pa_cons (pe_tup (pa_cons pe_int (pa_cons pe_int pa_nil))) (pa_cons (pe_tup (pa_cons pe_int (pa_cons pe_int pa_nil))) (pa_cons (pe_tup (pa_cons (pe_op op_sub pe_int pe_int) (pa_cons pe_int pa_nil))) (pa_cons (pe_tup (pa_cons pe_int (pa_cons (pe_op op_sub pe_int pe_int) pa_nil))) pa_nil))))))))
  (pss_cons (ps_set (i := 2) sc__law_twelfths.nd rfl (Or.inl rfl) (pe_ix ix_seq (pv 1) (pe_op op_modA (pe_callTy call_int1 (by rfl) T.n_int (by decide +kernel) (pa_cons (pv 0) pa_nil)) pe_int) (fun _ _ => rfl)))
  (pss_one (ps_ret (pe_ifExp (pt_cmpR op_lt (pe_op op_modA (pe_callTy call_int1 (by rfl) T.n_int (by decide +kernel) (pa_cons (pv 0) pa_nil)) pe_int) pe_int (nomark _)) (pv 2) (pe_tup (pa_cons (pe_op op_sub pe_int (pe_ix ix_seq (pv 2) pe_int (fun _ _ => rfl))) (pa_cons (pe_op op_sub pe_int (pe_ix ix_seq (pv 2) pe_int (fun _ _ => rfl))) pa_nil)))))))), pure__law_twelfths K vs H Q E h⟩
/-! ### _law_stir -/
def ckA (cs : List Ck) (c : Nat) : Ck := cs.getD c c0
def LV (dd ss : List Fr) (cs : List Ck) (z : Int) (k : Nat) (x : Rat) (i : Nat) : Rat := stV (fun c => (((far (z * ((ckA cs c).t : Int))).getD k 0 : Int) : Rat) * (val (ckA cs c).w * av dd ss (ckA cs c).i x)) i
structure LsOk (dd ss : List Fr) (cs : List Ck) (z : Int) (u : Nat → List Int) (S : Int) (i : Nat) : Prop where
  s0 : 0 < S
  sb : S.natAbs < 2 ^ (42 * i + 1)
  v : ∀ k, k < 4 → ∀ x, pI (u k) x = (S : Rat) * LV dd ss cs z k x i
  n : ∀ k, k < 4 → n1 (u k) < 2 ^ (42 * i + 1)
  ln : ∀ k, k < 4 → (u k).length ≤ 4
  t : ∀ k, k < 4 → (u k).getLast? ≠ some 0
def fourF (f : Nat → List Fr) : List PyData := (List.range 4).map fun j => frowD (f j)
theorem four_at (f : Nat → List Fr) {k : Nat} (h : k < 4) : atI (fourF f) (k : Int) = some (frowD (f k)) := by
  unfold fourF
  rw [atI_n, List.getElem?_map, List.getElem?_range h]
  rfl
theorem four_set (f g : Nat → List Fr) {k : Nat} (h : k < 4) : (fourF fun j => if j < k then g j else f j).set k (frowD (g k)) = fourF fun j => if j < k + 1 then g j else f j := by
  match k, h with
  | 0, _ => rfl
  | 1, _ => rfl
  | 2, _ => rfl
  | 3, _ => rfl
theorem far_map (n : Int) : [PyData.int (tw n).1, .int (tw n).2] ++ [.int (tw (n - 3)).1, .int (tw (n - 3)).2] = (far n).map PyData.int := rfl
theorem far_at (n : Int) {k : Nat} (h : k < 4) : atI ((far n).map PyData.int) (k : Int) = some (.int ((far n).getD k 0)) := by
  rw [atI_n, List.getElem?_map, List.getD_eq_getElem?_getD, List.getElem?_eq_getElem (by show k < 4; exact h)]
  rfl

def pre__law_stir : List PyData → Prop := fun ds => ∃ (dd ss : List Fr) (cs : List Ck) (z : Int), ds = [engD dd ss cs, .int z] ∧ Eng dd ss cs
def post__law_stir : List PyData → PyData → Prop := fun ds d => ∃ (dd ss : List Fr) (cs : List Ck) (z : Int) (u : Nat → List Int) (S : Int), ds = [engD dd ss cs, .int z] ∧ d = .list (fourF fun j => rowS (u j) S) ∧ LsOk dd ss cs z u S cs.length
abbrev sp__law_stir (K : PySem.W.Frag) : Sp := SpP K pre__law_stir post__law_stir
theorem len__law_stir (K : PySem.W.Frag) (vs : List V) (H : Hp) (Q : VK) (E : XK) (h : sp__law_stir K vs H Q E) : vs.length = p__law_stir.length := len_P (n := 2) h fun ds hp => by
  obtain ⟨dd, ss, cs, z, e, h⟩ := hp
  rw [e]; rfl
def t__law_stir (K : PySem.W.Frag) : TS :=
  (tSeq (tPar 2 3 (tCons (tCall (sp__law_run K) [] E0 (tCons (tOp (rIx K) (tVar 0) (tC (.int 0))) tNil)) (tCons (tLst (tCons (tLst tNil) (tCons (tLst tNil) (tCons (tLst tNil) (tCons (tLst tNil) tNil))))) tNil)))
  (tSeq (tFor (iTup K (tOp (rIx K) (tVar 0) (tC (.int 1)))) (gTup K 3 (gCons (gName 4) (gCons (gName 5) (gCons (gName 6) gNil)))) (tSeq (tAsg (tCall (sp__law_mul K) [] E0 (tCons (tLst (tCons (tVar 6) tNil)) (tCons (tOp (rIx K) (tVar 2) (tVar 4)) tNil))) (gName 7))
  (tSeq (tAsg (tOp (rAddA K) (tCall (sp__law_twelfths K) [] E0 (tCons (tOp (rMulA K) (tVar 1) (tVar 5)) tNil)) (tCall (sp__law_twelfths K) [] E0 (tCons (tOp (rI0 fun i j => .int (i - j)) (tOp (rMulA K) (tVar 1) (tVar 5)) (tC (.int 3))) tNil))) (gName 8))
  (tFor (iRng1 (tCons (tC (.int 4)) tNil)) (gName 9) (tAsg (tCall (sp__law_add K) [] E0 (tCons (tOp (rIx K) (tVar 3) (tVar 9)) (tCons (tCall (sp__law_mul K) [] E0 (tCons (tCall (sp__law_cut K) [] E0 (tCons (tLst (tCons (tTup (tCons (tOp (rIx K) (tVar 8) (tVar 9)) (tCons (tC (.int 1)) tNil))) tNil)) tNil)) (tCons (tVar 7) tNil))) tNil))) (gSub (tVar 3) (tVar 9) rSetL))))))
  (tRet (tVar 3))))
theorem pure__law_stir (K : PySem.W.Frag) (vs : List V) (H : Hp) (Q : VK) (E : XK) (h : sp__law_stir K vs H Q E) : t__law_stir K { nx := fun _ H' => Q .non H', rt := Q } (L2.start N__law_stir vs) H := body_P h fun B ds hW hp => by
  obtain ⟨dd, ss, cs, z, e, h⟩ := hp
  subst e
  unfold t__law_stir
  have c6 := h.c6
  have d4 := h.d4
  refine st_seq (st_parDO (ev_callP (ea_cons (ev_op (ev_var rfl (ev_int (rok_ixsT (d := lineD dd ss) rfl (ea_nil ⟨⟨dd, ss, rfl, h.l4⟩, fun d ⟨dd', ss', rs, e, ed, RV⟩ => ?_⟩))))))))
  obtain ⟨rfl, rfl⟩ := lineD_inj e
  subst ed
  refine en_lst (ea_cons (ev_lst (ea_nil ⟨by simp, ea_cons (ev_lst (ea_nil ⟨by simp, ea_cons (ev_lst (ea_nil ⟨by simp, ea_cons (ev_lst (ea_nil ⟨by simp, ea_nil ⟨by simp, fun l => ?_⟩⟩))⟩))⟩))⟩)))
  have e0 : [PyData.list [], .list [], .list [], .list []] = fourF fun j => rowS ((fun _ => []) j) 1 := rfl
  rw [e0]
  refine st_seq (st_forTG (ev_op (ev_var rfl (ev_int (rok_ixsT (d := .tuple (cs.map ckD)) rfl ⟨cs.map ck3, congrArg PyData.tuple (ck3_map cs), fun d hd => by obtain ⟨c, _, rfl⟩ := List.mem_map.mp hd; rfl, fun i L2 Γ2 => ∃ (u : Nat → List Int) (S : Int) (s4 s5 s6 s7 s8 s9 : Sl), L2 = [l] ∧ Γ2 = [.d (engD dd ss cs), .d (.int z), .d (.list (rs.map frowD)), .own l (fourF fun j => rowS (u j) S), s4, s5, s6, s7, s8, s9] ∧ LsOk dd ss cs z u S i, ⟨fun _ => [], 1, _, _, _, _, _, _, rfl, rfl, by decide, by decide, fun k hk x => by show (0 : Rat) = _ * 0; grind, fun k hk => by show 0 < _; exact Nat.two_pow_pos _, fun k hk => Nat.zero_le _, fun k hk => by simp⟩, ?_, ?_⟩)))))
  · rintro i d' L2 Γ2 g hi ⟨u, S, s4, s5, s6, s7, s8, s9, rfl, rfl, I⟩
    obtain ⟨c, hc, rfl⟩ := ck3_at hi
    have mem := List.mem_of_getElem? hc
    have il := (List.getElem?_eq_some_iff.mp hc).1
    have eA : ckA cs i = c := by unfold ckA; rw [List.getD_eq_getElem?_getD, hc]; rfl
    have ci := h.di c mem
    have ct := h.tw c mem
    have w2 := (h.ok c mem).1
    obtain ⟨b1, b2⟩ := h.sz c mem
    obtain ⟨U, T, hU, T0, Tb, Uv, Un, Ul, Ut⟩ := RV.row c.i ci
    have Tb := pow_up Tb (show 10 * c.i + 4 ≤ 34 by omega)
    have Un := pow_up Un (show 10 * c.i + 4 ≤ 34 by omega)
    have rat : atI (rs.map frowD) (c.i : Int) = some (frowD (rowS U T)) := by rw [atI_n, List.getElem?_map, hU]; rfl
    have wD : [frD c.w] = (rowS [c.w.1] c.w.2).map frD := by rw [← fr_row (h.ok c mem)]; rfl
    refine tg_cons (tg_cons (tg_cons (tg_nil ?_)))
    refine st_seq (st_asg (ev_callP (ea_cons (ev_lst (ea_cons (ev_var rfl (ea_nil ⟨by simp, ?_⟩))))))) 
    rw [wD]
    refine ea_cons (ev_op (ev_var rfl (ev_var rfl (rok_ixsL rat (ea_nil ⟨⟨[c.w.1], U, c.w.2, T, 4, 34, rfl, w2, T0, by show 1 ≤ 100; decide, by omega, by show c.w.1.natAbs + 0 < _; exact b1, Un, b2, Tb, by decide⟩, fun d ⟨r, s, t1, e, ed, fo1, tr1, pv1⟩ => ?_⟩)))))
    obtain ⟨rfl, rfl⟩ := frow2 (r := rowS [c.w.1] c.w.2) (s := rowS U T) e
    subst ed
    obtain rfl := sc_row fo1 tr1 w2 T0 pv1
    obtain ⟨V, hV⟩ : ∃ V, V = trim (comb c.w.1 U 0 []) := ⟨_, rfl⟩
    obtain ⟨R, hR⟩ : ∃ R, R = c.w.2 * T := ⟨_, rfl⟩
    rw [← hV, ← hR]
    have R0 : 0 < R := by rw [hR]; exact Int.mul_pos w2 T0
    have Rb : R.natAbs < 2 ^ 38 := by rw [hR]; exact natAbs_mul_lt b2 Tb
    have Vn : n1 V < 2 ^ 38 := by rw [hV]; exact Nat.lt_of_le_of_lt (n1_sc _ _) (mul_bd b1 Un)
    have Vl : V.length ≤ 4 := by rw [hV]; exact Nat.le_trans (len_sc _ _) (by omega)
    have Vv : ∀ x, pI V x = (R : Rat) * (val c.w * av dd ss c.i x) := fun x => by
      rw [hV, hR, pI_sc, Uv, Rat.intCast_mul]
      have q1 := ratInt_ne (a := c.w.2) (by omega)
      unfold val av
      grind
    refine st_seq (st_asg (ev_op (ev_callP (ea_cons (ev_op (ev_var rfl (ev_var rfl (ro_mul (.inr ⟨by omega, by omega⟩) (ea_nil ⟨⟨_, rfl⟩, fun d ⟨n, e, ed⟩ => ?_⟩)))))))))
    obtain rfl := PyData.int.inj (List.cons.inj e).1
    subst ed
    refine ev_callP (ea_cons (ev_op (ev_op (ev_var rfl (ev_var rfl (ro_mul (.inr ⟨by omega, by omega⟩) (ev_int (rok_i0 (ea_nil ⟨⟨_, rfl⟩, fun d ⟨n, e, ed⟩ => ?_⟩)))))))))
    obtain rfl := PyData.int.inj (List.cons.inj e).1
    subst ed
    refine ro_catT (by simp) ?_
    rw [far_map]
    obtain ⟨F, hF⟩ : ∃ F : Nat → List Int, F = fun j => trim (comb R (u j) (S * (far (z * (c.t : Int))).getD j 0) V) := ⟨_, rfl⟩
    refine st_forR (ea_cons (ev_int (ea_nil ⟨4, rfl, by decide, by decide, fun k L3 Γ3 => ∃ s9 : Sl, L3 = [l] ∧ Γ3 = [.d (engD dd ss cs), .d (.int z), .d (.list (rs.map frowD)), .own l (fourF fun j => if j < k then rowS (F j) (S * R) else rowS (u j) S), .d (.int (c.i : Int)), .d (.int (c.t : Int)), .d (frD c.w), .d (frowD (rowS V R)), .d (.tuple ((far (z * (c.t : Int))).map .int)), s9], ⟨_, rfl, rfl⟩, ?_, ?_⟩)))
    · rintro k L3 Γ3 hk ⟨s9, rfl, rfl⟩
      have hk : k < 4 := hk
      have f2 := far_le (z * (c.t : Int)) k
      obtain ⟨f, hf⟩ : ∃ f, f = (far (z * (c.t : Int))).getD k 0 := ⟨_, rfl⟩
      rw [← hf] at f2
      have fat := far_at (z * (c.t : Int)) hk
      rw [← hf] at fat
      have aX := four_at (fun j => if j < k then rowS (F j) (S * R) else rowS (u j) S) hk
      rw [if_neg (Nat.lt_irrefl k)] at aX
      have fo : FOk (f, 1) := ⟨by show (0 : Int) < 1; decide, by show Nat.gcd f.natAbs 1 = 1; rw [Nat.gcd_one_right]⟩
      refine st_setOwn rfl (ev_callP (ea_cons (ev_ixOwn rfl (ev_var rfl ⟨_, _, rfl, aX, ?_⟩))))
      refine ea_cons (ev_callP (ea_cons (ev_callP (ea_cons (ev_lst (ea_cons (ev_tup (ea_cons (ev_op (ev_var rfl (ev_var rfl (rok_ixsT fat (ea_cons (ev_int (ea_nil ⟨by simp, ea_nil ⟨by simp, ea_nil ⟨⟨[(f, 1)], rfl, by simp⟩, fun d ⟨r, m, e, ed, hm, hz, h0⟩ => ?_⟩⟩⟩)))))))))))))))
      obtain rfl := frow1 (r := [(f, 1)]) (s := r) e
      subst ed
      obtain ⟨f1, f2', f3⟩ := cut_row (r := [(f, 1)]) (fun y hy => by rw [List.mem_singleton.mp hy]; exact fo) hm hz h0
      have t0 := rowS_uniq (U := [f]) (S := 1) f1 f2' (by decide) fun x => by rw [f3, fr_row fo, rowS_pF]
      rw [t0]
      have nf : n1 (trim [f]) < 2 ^ 2 := Nat.lt_of_le_of_lt (n1_trim _) (by show f.natAbs + 0 < _; omega)
      refine ea_cons (ev_var rfl (ea_nil ⟨⟨trim [f], V, 1, R, 2, 38, rfl, by decide, R0, by have := trim_len [f]; simp at this; omega, by omega, nf, Vn, by decide, Rb, by decide⟩, fun d ⟨r, s, t1, e, ed, fo1, tr1, pv1⟩ => ?_⟩))
      obtain ⟨rfl, rfl⟩ := frow2 (r := rowS (trim [f]) 1) (s := rowS V R) e
      subst ed
      obtain rfl := sc_row (k1 := f) (k2 := 1) (U := V) (T := R) fo1 tr1 (by decide) R0 (fun x => by rw [pv1, rowS_pF, rowS_pF, rowS_pF, pI_trim])
      have n3 : n1 (trim (comb f V 0 [])) < 2 ^ 4000 := pow_up (Nat.lt_of_le_of_lt (n1_sc _ _) (mul_bd (show f.natAbs < 2 ^ 2 by omega) Vn)) (by decide)
      have R1 : 0 < 1 * R := by omega
      have R1b : (1 * R).natAbs < 2 ^ 4000 := by rw [Int.one_mul]; exact pow_up Rb (by decide)
      refine ea_nil ⟨⟨rowS (u k) S, rowS (trim (comb f V 0 [])) (1 * R), rfl, by rw [rowS_len]; have := I.ln k hk; omega, by rw [rowS_len]; have := len_sc f V; omega, rowS_sm I.s0 (pow_up (I.n k hk) (by omega)) (pow_up I.sb (by omega)), rowS_sm R1 n3 R1b⟩, fun d ⟨r, s, t2, e, ed, fo2, tr2, pv2⟩ => ?_⟩
      obtain ⟨rfl, rfl⟩ := frow2 (r := rowS (u k) S) (s := rowS (trim (comb f V 0 [])) (1 * R)) e
      subst ed
      have s0 := I.s0
      have fin := rowS_uniq (U := comb R (u k) (S * f) V) (S := S * R) fo2 tr2 (Int.mul_pos s0 R0) fun x => by
        rw [pv2, rowS_pF, rowS_pF, pI_sc, pI_comb, Rat.intCast_mul, Rat.intCast_mul, Rat.intCast_mul]
        have q1 := ratInt_ne (a := S) (by omega)
        have q2 := ratInt_ne (a := R) (by omega)
        have o : ((1 : Int) : Rat) = 1 := rfl
        rw [o]
        grind
      have eF : F k = trim (comb R (u k) (S * f) V) := by rw [hF, hf]
      rw [fin, ← eF]
      have st := four_set (fun j => rowS (u j) S) (fun j => rowS (F j) (S * R)) hk
      refine ev_var rfl ⟨k, rfl, by show k < 4; exact hk, .d (.int (k : Int)), rfl, ?_⟩
      rw [st]
      rfl
    · rintro L3 Γ3 ⟨s9, rfl, rfl⟩
      have s0 := I.s0
      refine ⟨F, S * R, _, _, _, _, _, _, rfl, rfl, Int.mul_pos s0 R0, pow_up (natAbs_mul_lt I.sb Rb) (by omega), fun k hk x => ?_, fun k hk => ?_, fun k hk => ?_, fun k hk => ?_⟩
      · show pI (F k) x = _ * (LV dd ss cs z k x i + (((far (z * ((ckA cs i).t : Int))).getD k 0 : Int) : Rat) * (val (ckA cs i).w * av dd ss (ckA cs i).i x))
        rw [hF, eA, pI_trim, pI_comb, I.v k hk, Vv, Rat.intCast_mul, Rat.intCast_mul]
        grind
      · rw [hF]
        have f2 := far_le (z * (c.t : Int)) k
        have a1 := n1_trim (comb R (u k) (S * (far (z * (c.t : Int))).getD k 0) V)
        have a2 := n1_comb R (u k) (S * (far (z * (c.t : Int))).getD k 0) V
        have a3 : R.natAbs * n1 (u k) < 2 ^ (38 + (42 * i + 1)) := mul_bd Rb (I.n k hk)
        have a4 : (S * (far (z * (c.t : Int))).getD k 0).natAbs * n1 V < 2 ^ ((42 * i + 1) + 2 + 38) := mul_bd (natAbs_mul_lt I.sb (show _ < 2 ^ 2 by omega)) Vn
        have a5 : 2 ^ (38 + (42 * i + 1)) ≤ 2 ^ (42 * i + 42) := Nat.pow_le_pow_right (by decide) (by omega)
        have a6 : 2 ^ ((42 * i + 1) + 2 + 38) ≤ 2 ^ (42 * i + 42) := Nat.pow_le_pow_right (by decide) (by omega)
        have a7 : 2 ^ (42 * (i + 1) + 1) = 2 ^ (42 * i + 42) + 2 ^ (42 * i + 42) := by rw [show 42 * (i + 1) + 1 = 42 * i + 42 + 1 by omega, Nat.pow_succ]; omega
        show n1 (trim _) < _
        omega
      · rw [hF]
        exact len_lin _ _ _ _ (I.ln k hk) Vl
      · rw [hF]
        exact trim_last _
  · rintro L2 Γ2 ⟨u, S, s4, s5, s6, s7, s8, s9, rfl, rfl, I⟩
    rw [List.length_map] at I
    exact st_freeze 3 rfl (by simp) (st_ret (ev_var rfl ⟨dd, ss, cs, z, u, S, rfl, rfl, I⟩))
theorem ok__law_stir (T : Tx K mg) : FnOk P w K mg base CX0 6 T.a__law_stir T.d__law_stir p__law_stir (sp__law_stir K) := by
  refine T.F__law_stir.ok sc__law_stir (fun vs H Q E h => len__law_stir K vs H Q E h) (fun cdv A outer s H vs Q E hr h => ?_)
  exact ⟨t__law_stir K, (pss_cons (ps_par (by rfl) sc__law_stir.nd rfl rfl (by decide) rfl rfl (pa_cons (pe_call (ok__law_run T) (hr.mono (by decide)) rfl T.g__law_run T.F__law_run.kp (b__law_run T) .nil pass0 (pa_cons (pe_ix ix_seq (pv 0) pe_int (fun _ _ => rfl)) pa_nil)) (pa_cons (pe_lst (pa_cons (pe_lst pa_nil) (pa_cons (pe_lst pa_nil) (pa_cons (pe_lst pa_nil) (pa_cons (pe_lst pa_nil) pa_nil))))) pa_nil)) (by rfl))
  (pss_cons (ps_for PassesOwn.never rfl (pi_tup (pe_ix ix_seq (pv 0) pe_int (fun _ _ => rfl))) (pg_tup (by rfl) (pgs_cons (pg_name (i := 4) sc__law_stir.nd rfl (Or.inl rfl)) (pgs_cons (pg_name (i := 5) sc__law_stir.nd rfl (Or.inl rfl)) (pgs_cons (pg_name (i := 6) sc__law_stir.nd rfl (Or.inl rfl)) pgs_nil)))) (pss_cons (ps_set (i := 7) sc__law_stir.nd rfl (Or.inl rfl) (pe_call (ok__law_mul T) (hr.mono (by decide)) rfl T.g__law_mul T.F__law_mul.kp (b__law_mul T) .nil pass0 (pa_cons (pe_lst (pa_cons (pv 6) pa_nil)) (pa_cons (pe_ix ix_seq (pv 2) (pv 4) (fun _ _ => rfl)) pa_nil))))
  (pss_cons (ps_set (i := 8) sc__law_stir.nd rfl (Or.inl rfl) (pe_op op_addA (pe_call (ok__law_twelfths T) (hr.mono (by decide)) rfl T.g__law_twelfths T.F__law_twelfths.kp (b__law_twelfths T) .nil pass0 (pa_cons (pe_op op_mulA (pv 1) (pv 5)) pa_nil)) (pe_call (ok__law_twelfths T) (hr.mono (by decide)) rfl T.g__law_twelfths T.F__law_twelfths.kp (b__law_twelfths T) .nil pass0 (pa_cons (pe_op op_sub (pe_op op_mulA (pv 1) (pv 5)) pe_int) pa_nil))))
  (pss_one (ps_for PassesOwn.never rfl (pi_range1 (by rfl) T.n_range (pa_cons pe_int pa_nil)) (pg_name (i := 9) sc__law_stir.nd rfl (Or.inl rfl)) (pss_one (ps_asg (pe_call (ok__law_add T) (hr.mono (by decide)) rfl T.g__law_add T.F__law_add.kp (b__law_add T) .nil pass0 (pa_cons (pe_ix ix_seq (pv 3) (pv 9) (fun _ _ => rfl)) (pa_cons (pe_call (ok__law_mul T) (hr.mono (by decide)) rfl T.g__law_mul T.F__law_mul.kp (b__law_mul T) .nil pass0 (pa_cons (pe_call (ok__law_cut T) (hr.mono (by decide)) rfl T.g__law_cut T.F__law_cut.kp (b__law_cut T) .nil pass0 (pa_cons (pe_lst (pa_cons (pe_tup (pa_cons (pe_ix ix_seq (pv 8) (pv 9) (fun _ _ => rfl)) (pa_cons pe_int pa_nil))) pa_nil)) pa_nil)) (pa_cons (pv 7) pa_nil))) pa_nil))) (pg_sub (pv 3) (pv 9) set_list))))))))
  (pss_one (ps_ret (pv 3))))), pure__law_stir K vs H Q E h⟩
/-! ### _law_due -/
theorem lrow_shaped (r : List Fr) : SeqAt.shaped (frowD r) = true ∧ (frowD r).hasDict = false := by
  obtain ⟨a, b, c⟩ := lay_frs r
  unfold frowD
  refine ⟨?_, by simpa [PyData.hasDict] using c⟩
  unfold SeqAt.shaped
  simp only [PyData.canLay0, PyData.depth, a, Bool.true_and]
  exact decide_eq_true (by omega)
theorem lay_rows : ∀ rs : List (List Fr), PyData.canLayAll0 (rs.map frowD) = true ∧ PyData.depthAll (rs.map frowD) ≤ 2 ∧ PyData.hasDictAll (rs.map frowD) = false
  | [] => by simp [PyData.canLayAll0, PyData.depthAll, PyData.hasDictAll]
  | x :: r => by
    obtain ⟨a, b, c⟩ := lay_rows r
    obtain ⟨a', b', c'⟩ := lay_frs x
    simp [PyData.canLayAll0, PyData.depthAll, PyData.hasDictAll, frowD, PyData.canLay0, PyData.depth, PyData.hasDict, a, c, a', c'] at b ⊢
    omega
theorem lrows_shaped (rs : List (List Fr)) : SeqAt.shaped (.list (rs.map frowD)) = true ∧ (PyData.list (rs.map frowD)).hasDict = false := by
  obtain ⟨a, b, c⟩ := lay_rows rs
  refine ⟨?_, by simpa [PyData.hasDict] using c⟩
  unfold SeqAt.shaped
  simp only [PyData.canLay0, PyData.depth, a, Bool.true_and]
  exact decide_eq_true (by omega)
theorem eqv_nil (ds : List PyData) : PyData.eqv (.list ds) (.list []) = decide (ds = []) := by
  cases ds with
  | nil => rfl
  | cons x r =>
    rw [decide_eq_false (by simp)]
    rfl
theorem stV_congr {f g : Nat → Rat} {c : Rat} : ∀ n, (∀ i, i < n → f i = c * g i) → stV f n = c * stV g n
  | 0, _ => by
    show (0 : Rat) = c * 0
    grind
  | n + 1, h => by
    show stV f n + f n = c * (stV g n + g n)
    rw [stV_congr n (fun i hi => h i (by omega)), h n (by omega)]
    grind
structure PtOk (dd ss : List Fr) (cs : List Ck) (z : Int) (vs : List (List Int)) : Prop where
  l : vs.length = 4
  t : ∀ k, (vs.getD k []).getLast? ≠ some 0
  a : ((∀ k, vs.getD k [] = []) ∧ ∀ k, k < 4 → ∀ x, LV dd ss cs z k x cs.length = 0) ∨ (gcdL vs.flatten = 1 ∧ ∃ c : Rat, 0 < c ∧ ∀ k, k < 4 → ∀ x, pI (vs.getD k []) x = c * LV dd ss cs z k x cs.length)
theorem pt_no {vs : List (List Int)} (l : vs.length = 4) (g : gcdL vs.flatten = 1) (h : ∀ k, k < 4 → ∀ x, pI (vs.getD k []) x = 0) : False := by
  obtain ⟨n, hn⟩ := gcdL_some (u := vs.flatten) (by omega)
  obtain ⟨w, hw, hy⟩ := List.mem_flatten.mp (mem_getD hn)
  obtain ⟨k, hk, e⟩ := at_getD [] hw
  obtain ⟨j, hj⟩ := mem_get hy
  have := pI_get (h k (by omega)) j
  rw [e, hj] at this
  exact hn this
theorem PtOk.uniq {dd ss : List Fr} {cs : List Ck} {z : Int} {vs ws : List (List Int)} (h : PtOk dd ss cs z vs) (k : PtOk dd ss cs z ws) : vs = ws := by
  rcases h.a with ⟨a1, a2⟩ | ⟨a1, c, c0, a2⟩
  · rcases k.a with ⟨b1, b2⟩ | ⟨b1, d, d0, b2⟩
    · refine List.ext_getElem? fun n => ?_
      have e1 := a1 n
      have e2 := b1 n
      rw [List.getD_eq_getElem?_getD] at e1 e2
      by_cases q : n < 4
      · rw [List.getElem?_eq_getElem (by rw [h.l]; exact q)] at e1 ⊢
        rw [List.getElem?_eq_getElem (by rw [k.l]; exact q)] at e2 ⊢
        exact congrArg some ((show vs[n]'(by rw [h.l]; exact q) = [] from e1).trans (show ws[n]'(by rw [k.l]; exact q) = [] from e2).symm)
      · rw [List.getElem?_eq_none (by rw [h.l]; omega), List.getElem?_eq_none (by rw [k.l]; omega)]
    · exact (pt_no k.l b1 fun n hn x => by rw [b2 n hn x, a2 n hn x]; grind).elim
  · rcases k.a with ⟨b1, b2⟩ | ⟨b1, d, d0, b2⟩
    · exact (pt_no h.l a1 fun n hn x => by rw [a2 n hn x, b2 n hn x]; grind).elim
    · have dn : d ≠ 0 := fun q => by rw [q] at d0; exact absurd d0 (by decide)
      refine prim_uniqA (c := c / d) (by rw [Rat.div_def]; exact Rat.mul_pos c0 (Rat.inv_pos.mpr d0)) (by rw [h.l, k.l]) (fun n x => ?_) a1 b1 h.t k.t
      by_cases q : n < 4
      · rw [a2 n q, b2 n q]
        grind
      · rw [get_out (u := vs) (by rw [h.l]; omega), get_out (u := ws) (by rw [k.l]; omega), pI_nil]
        grind
theorem div_last {g : Int} {u : List Int} (g0 : g ≠ 0) (hd : ∀ x ∈ u, g ∣ x) (t : u.getLast? ≠ some 0) : (u.map fun x => x / g).getLast? ≠ some 0 := fun q => by
  rw [List.getLast?_map] at q
  cases e : u.getLast? with
  | none => rw [e] at q; cases q
  | some y =>
    rw [e] at q
    have q : y / g = 0 := Option.some.inj q
    obtain ⟨z, hz⟩ := hd y (List.mem_of_getLast? e)
    rw [hz, Int.mul_ediv_cancel_left _ g0] at q
    rw [q, Int.mul_zero] at hz
    exact t (by rw [e, hz])
theorem thinA_get (us : List (List Int)) (k : Nat) : (thinA us).getD k [] = (us.getD k []).map fun x => x / ((gcdA us : Nat) : Int) := by
  unfold thinA
  rw [List.getD_eq_getElem?_getD, List.getElem?_map, List.getD_eq_getElem?_getD]
  cases us[k]? <;> rfl
theorem pt_thin {dd ss : List Fr} {cs : List Ck} {z : Int} {us : List (List Int)} {c : Rat} (hc : 0 < c) (l : us.length = 4) (t : ∀ k, (us.getD k []).getLast? ≠ some 0) (v : ∀ k, k < 4 → ∀ x, pI (us.getD k []) x = c * LV dd ss cs z k x cs.length) : PtOk dd ss cs z (thinA us) := by
  have cn : c ≠ 0 := fun q => by rw [q] at hc; exact absurd hc (by decide)
  by_cases q : ∀ k, us.getD k [] = []
  · refine ⟨by unfold thinA; rw [List.length_map, l], fun k => by rw [thinA_get, q k]; simp, .inl ⟨fun k => by rw [thinA_get, q k]; rfl, fun k hk x => ?_⟩⟩
    have := v k hk x
    rw [q k, pI_nil] at this
    rcases Rat.mul_eq_zero.mp this.symm with e | e
    · exact (cn e).elim
    · exact e
  · obtain ⟨k, hk⟩ : ∃ k, us.getD k [] ≠ [] := Classical.byContradiction fun no => q fun k => Classical.byContradiction fun n2 => no ⟨k, n2⟩
    have kl : k < us.length := by
      by_cases hl : k < us.length
      · exact hl
      · exact (hk (get_out (u := us) (by omega))).elim
    have nz : ∃ y ∈ us.flatten, y ≠ 0 := by
      cases e : (us.getD k []).getLast? with
      | none => exact (hk (List.getLast?_eq_none_iff.mp e)).elim
      | some y => exact ⟨y, List.mem_flatten.mpr ⟨_, in_getD kl, List.mem_of_getLast? e⟩, fun z => t k (by rw [e, z])⟩
    have gp := gcdL_pos nz
    have gR := ratInt_pos (a := ((gcdL us.flatten : Nat) : Int)) (by omega)
    rw [Rat.intCast_natCast] at gR
    have gn : ((gcdL us.flatten : Nat) : Rat) ≠ 0 := fun z => by rw [z] at gR; exact absurd gR (by decide)
    refine ⟨by unfold thinA; rw [List.length_map, l], fun j => ?_, .inr ⟨by rw [thinA_flat]; exact prim_gcd nz, c / ((gcdL us.flatten : Nat) : Rat), by rw [Rat.div_def]; exact Rat.mul_pos hc (Rat.inv_pos.mpr gR), fun j hj x => ?_⟩⟩
    · rw [thinA_get]
      by_cases jl : j < us.length
      · have gz : ((gcdA us : Nat) : Int) ≠ 0 := by
          show ((gcdL us.flatten : Nat) : Int) ≠ 0
          omega
        exact div_last gz (fun x hx => gcdL_dvd (List.mem_flatten.mpr ⟨_, in_getD jl, hx⟩)) (t j)
      · rw [get_out (u := us) (by omega)]
        simp
    · have jl : j < us.length := by rw [l]; exact hj
      have e := pI_divA (us := us) (in_getD (z := []) jl) (by omega) x
      rw [thinA_get]
      rw [v j hj] at e
      show pI _ x = _
      grind

def pre__law_due : List PyData → Prop := fun ds => ∃ (dd ss : List Fr) (cs : List Ck) (z : Int), ds = [engD dd ss cs, .int z] ∧ Eng dd ss cs
def post__law_due : List PyData → PyData → Prop := fun ds d => ∃ (dd ss : List Fr) (cs : List Ck) (z : Int) (vs : List (List Int)), ds = [engD dd ss cs, .int z] ∧ d = .tuple (vs.map rowD) ∧ PtOk dd ss cs z vs ∧ ∀ v ∈ vs, v.length ≤ 9 ∧ bd v 1000
abbrev sp__law_due (K : PySem.W.Frag) : Sp := SpP K pre__law_due post__law_due
theorem len__law_due (K : PySem.W.Frag) (vs : List V) (H : Hp) (Q : VK) (E : XK) (h : sp__law_due K vs H Q E) : vs.length = p__law_due.length := len_P (n := 2) h fun ds hp => by
  obtain ⟨dd, ss, cs, z, e, h⟩ := hp
  rw [e]; rfl
def t__law_due (K : PySem.W.Frag) : TS :=
  (tSeq (tAsg (tCall (sp__law_stir K) [] E0 (tCons (tVar 0) (tCons (tVar 1) tNil))) (gName 2))
  (tSeq (tIfS (tTest (tOp (rEqD K) (tLc (iList K (tVar 2)) (gName 3) (tTest (tOp (rNeD K) (tVar 3) (tLst tNil))) (tVar 3) [3]) (tLst tNil))) (tRet (tTup (tCons (tTup tNil) (tCons (tTup tNil) (tCons (tTup tNil) (tCons (tTup tNil) tNil)))))) tNext)
  (tRet (tCB (rTupleQ K) (tCons (tLc (iList K (tCall (sp__law_thin K) [] E0 (tCons (tVar 2) tNil))) (gName 4) tYes (tCB (rTupleQ K) (tCons (tVar 4) tNil)) [4]) tNil)))))
theorem pure__law_due (K : PySem.W.Frag) (vs : List V) (H : Hp) (Q : VK) (E : XK) (h : sp__law_due K vs H Q E) : t__law_due K { nx := fun _ H' => Q .non H', rt := Q } (L2.start N__law_due vs) H := body_P h fun B ds hW hp => by
  obtain ⟨dd, ss, cs, z, e, h⟩ := hp
  subst e
  unfold t__law_due
  have c6 := h.c6
  refine st_seq (st_asg (ev_callP (ea_cons (ev_var rfl (ea_cons (ev_var rfl (ea_nil ⟨⟨dd, ss, cs, z, rfl, h⟩, fun d ⟨dd', ss', cs', z', u, S, e, ed, LS⟩ => ?_⟩)))))))
  have e2 := (List.cons.inj (List.cons.inj e).2).1
  obtain ⟨rfl, rfl, rfl⟩ := engD_inj (List.cons.inj e).1
  obtain rfl : z = z' := PyData.int.inj e2
  subst ed
  obtain ⟨us, hus⟩ : ∃ us, us = (List.range 4).map u := ⟨_, rfl⟩
  have ef : (fourF fun j => rowS (u j) S) = (us.map fun u => rowS u S).map frowD := by
    rw [hus, List.map_map, List.map_map]
    rfl
  have lu : us.length = 4 := by rw [hus]; rfl
  have gu : ∀ k, us.getD k [] = if k < 4 then u k else [] := fun k => by
    rw [hus, List.getD_eq_getElem?_getD, List.getElem?_map]
    by_cases q : k < 4
    · rw [if_pos q, List.getElem?_range q]
      rfl
    · rw [if_neg q, List.getElem?_eq_none (by rw [List.length_range]; omega)]
      rfl
  have mu : ∀ w ∈ us, ∃ k, k < 4 ∧ w = u k := fun w hw => by
    rw [hus] at hw
    obtain ⟨k, hk, rfl⟩ := List.mem_map.mp hw
    exact ⟨k, List.mem_range.mp hk, rfl⟩
  have tu : ∀ k, (us.getD k []).getLast? ≠ some 0 := fun k => by
    rw [gu]
    by_cases q : k < 4
    · rw [if_pos q]
      exact LS.t k q
    · rw [if_neg q]
      simp
  have vu : ∀ k, k < 4 → ∀ x, pI (us.getD k []) x = (S : Rat) * LV dd ss cs z k x cs.length := fun k hk x => by
    rw [gu, if_pos hk]
    exact LS.v k hk x
  have PT := pt_thin (ratInt_pos LS.s0) lu tu vu
  have szT : ∀ v ∈ thinA us, v.length ≤ 9 ∧ bd v 1000 := fun v hv => by
    unfold thinA at hv
    obtain ⟨w, hw, rfl⟩ := List.mem_map.mp hv
    obtain ⟨k, hk, rfl⟩ := mu w hw
    refine ⟨by rw [List.length_map]; have := LS.ln k hk; omega, ?_⟩
    have n0 : 0 < gcdA us ∨ gcdA us = 0 := by omega
    rcases n0 with n0 | n0
    · exact n1_bd (pow_up (Nat.lt_of_le_of_lt (n1_div _ (by omega) _) (LS.n k hk)) (by omega))
    · rw [n0]
      intro x hx
      obtain ⟨y, _, rfl⟩ := List.mem_map.mp hx
      show (y / ((0 : Nat) : Int)).natAbs < _
      rw [show ((0 : Nat) : Int) = 0 from rfl, Int.ediv_zero]
      exact Nat.two_pow_pos _
  rw [ef]
  obtain ⟨fl, hfl⟩ : ∃ fl : List (List Int), fl = us.filter fun w => decide (w ≠ []) := ⟨_, rfl⟩
  refine st_seq (st_if (et_test (ev_op (ev_new (en_lcL (wipe1 3) (ev_var rfl ⟨(us.map fun u => rowS u S).map frowD, rfl, by rw [List.length_map, List.length_map, lu]; decide, fun i acc => acc = (((us.take i).filter fun w => decide (w ≠ [])).map fun u => rowS u S).map frowD, ⟨rfl, fun i D d' acc hi hJ hin => ?_⟩, fun acc hJ => ?_⟩))))))
  · obtain ⟨w, hw, rfl⟩ := rowsS_at hi
    obtain ⟨sh, nd⟩ := lrow_shaped (rowS w S)
    refine et_test (ev_op (ev_var rfl (ev_lst (ea_nil ⟨by simp, rok_neD nd rfl sh rfl ⟨_, rfl, fun hb => ?_, fun hb => ?_⟩⟩))))
    · have hb : (!PyData.eqv (.list ((rowS w S).map frD)) (.list [])) = true := hb
      rw [eqv_nil] at hb
      have wn : w ≠ [] := fun z => by rw [z] at hb; simp [rowS] at hb
      refine ev_var rfl ?_
      show acc ++ [_] = (((us.take (i + 1)).filter fun w => decide (w ≠ [])).map fun u => rowS u S).map frowD
      rw [hJ, List.take_add_one, hw, List.filter_append, List.map_append, List.map_append]
      show _ = _ ++ ((([w].filter fun w => decide (w ≠ [])).map fun u => rowS u S).map frowD)
      rw [List.filter_cons_of_pos (by simpa using wn)]
      rfl
    · have hb : (!PyData.eqv (.list ((rowS w S).map frD)) (.list [])) = false := hb
      rw [eqv_nil] at hb
      have wn : w = [] := by
        have := of_decide_eq_true (by simpa using hb : decide ((rowS w S).map frD = []) = true)
        have := congrArg List.length this
        rw [List.length_map, rowS_len] at this
        exact List.length_eq_zero_iff.mp this
      show acc = (((us.take (i + 1)).filter fun w => decide (w ≠ [])).map fun u => rowS u S).map frowD
      rw [hJ, List.take_add_one, hw, List.filter_append]
      show _ = (((_ ++ [w].filter fun w => decide (w ≠ []))).map fun u => rowS u S).map frowD
      rw [List.filter_cons_of_neg (by simpa using wn)]
      simp
  · rw [List.length_map, List.length_map, List.take_length, ← hfl] at hJ
    subst hJ
    obtain ⟨sh, nd⟩ := lrows_shaped (fl.map fun u => rowS u S)
    refine ev_lst (ea_nil ⟨by simp, rok_eqD nd rfl sh rfl ⟨_, rfl, fun hb => ?_, fun hb => st_next ?_⟩⟩)
    · rw [eqv_nil] at hb
      have fn : fl = [] := by
        have := congrArg List.length (of_decide_eq_true hb)
        rw [List.length_map, List.length_map] at this
        exact List.length_eq_zero_iff.mp this
      have all0 : ∀ k, us.getD k [] = [] := fun k => by
        by_cases kl : k < us.length
        · refine Classical.byContradiction fun ne => ?_
          have : us.getD k [] ∈ fl := by rw [hfl]; exact List.mem_filter.mpr ⟨in_getD kl, by simpa using ne⟩
          rw [fn] at this
          cases this
        · exact get_out (u := us) (by omega)
      have eT : thinA us = [[], [], [], []] := by
        refine PT.uniq (ws := [[], [], [], []]) ⟨rfl, fun k => ?_, .inl ⟨fun k => ?_, fun k hk x => ?_⟩⟩
        · match k with
          | 0 | 1 | 2 | 3 => simp
          | k + 4 => simp
        · match k with
          | 0 | 1 | 2 | 3 => rfl
          | k + 4 => rfl
        · have := vu k hk x
          rw [all0 k, pI_nil] at this
          have sn := ratInt_ne (a := S) (by have := LS.s0; omega)
          rcases Rat.mul_eq_zero.mp this.symm with e | e
          · exact (sn e).elim
          · exact e
      refine st_ret (ev_tup (ea_cons (ev_tup (ea_nil ⟨by simp, ea_cons (ev_tup (ea_nil ⟨by simp, ea_cons (ev_tup (ea_nil ⟨by simp, ea_cons (ev_tup (ea_nil ⟨by simp, ea_nil ⟨by simp, dd, ss, cs, z, thinA us, rfl, ?_, PT, szT⟩⟩))⟩))⟩))⟩))))
      rw [eT]
      rfl
    · rw [eqv_nil] at hb
      have ne : ∃ w ∈ us, ∃ y ∈ w, y ≠ 0 := by
        refine Classical.byContradiction fun no => ?_
        have fn : fl = [] := by
          rw [hfl]
          refine List.filter_eq_nil_iff.mpr fun w hw hb2 => ?_
          have wn : w ≠ [] := by simpa using hb2
          obtain ⟨k, hk, e⟩ := at_getD [] hw
          cases el : w.getLast? with
          | none => exact wn (List.getLast?_eq_none_iff.mp el)
          | some y => exact no ⟨w, hw, y, List.mem_of_getLast? el, fun z => tu k (by rw [e, el, z])⟩
        rw [fn] at hb
        simp at hb
      refine st_ret (ev_cb (ea_cons (ev_new (en_lcL (wipe1 4) (ev_callP (ea_cons (ev_var rfl (ea_nil ⟨⟨us, S, rfl, LS.s0, by omega, fun w hw => ?_, pow_up LS.sb (by omega), ne⟩, fun d ⟨rs, e, hd⟩ => ?_⟩))))))))
      · obtain ⟨k, hk, rfl⟩ := mu w hw
        exact ⟨by have := LS.ln k hk; omega, pow_up (LS.n k hk) (by omega)⟩
      obtain rfl := frows1 (PyData.list.inj (List.cons.inj e).1)
      have ed := hd us S rfl LS.s0
      subst ed
      refine ⟨_, rfl, by rw [List.length_map]; unfold thinA; rw [List.length_map, lu]; decide, fun i acc => acc = ((thinA us).take i).map rowD, ⟨rfl, fun i D d' acc hi hJ hin => ?_⟩, fun acc hJ => ?_⟩
      · obtain ⟨w, hw, rfl⟩ : ∃ w, (thinA us)[i]? = some w ∧ d' = .list (w.map .int) := by
          have hi : ((thinA us).map fun u => PyData.list (u.map .int))[i]? = some d' := hi
          rw [List.getElem?_map] at hi
          cases q : (thinA us)[i]? with
          | none => rw [q] at hi; cases hi
          | some w => rw [q] at hi; exact ⟨w, rfl, (Option.some.inj hi).symm⟩
        refine et_yes ⟨fun _ => ?_, fun z => nomatch z⟩
        refine ev_cb (ea_cons (ev_var rfl (ea_nil (co_tupL ?_))))
        show acc ++ [_] = ((thinA us).take (i + 1)).map rowD
        rw [hJ, List.take_add_one, hw, List.map_append]
        rfl
      · rw [List.length_map, List.take_length] at hJ
        subst hJ
        exact ea_nil (co_tupL ⟨dd, ss, cs, z, thinA us, rfl, rfl, PT, szT⟩)
theorem ok__law_due (T : Tx K mg) : FnOk P w K mg base CX0 7 T.a__law_due T.d__law_due p__law_due (sp__law_due K) := by
  refine T.F__law_due.ok sc__law_due (fun vs H Q E h => len__law_due K vs H Q E h) (fun cdv A outer s H vs Q E hr h => ?_)
  have hu := hr.units
  exact ⟨t__law_due K, (pss_cons (ps_set (i := 2) sc__law_due.nd rfl (Or.inl rfl) (pe_call (ok__law_stir T) (hr.mono (by decide)) rfl T.g__law_stir T.F__law_stir.kp (b__law_stir T) .nil pass0 (pa_cons (pv 0) (pa_cons (pv 1) pa_nil))))
  (pss_cons (ps_if (pt_cmpR (op_eqD hu) (pe_lc (own := [("_law_row", 3)]) (by rfl) sc__law_due.nd (pi_list (pv 2)) (blkOk_by (own := [("_law_row", 3)]) (N := N__law_due) (sc := defScope s__law_due) (by decide +kernel)) (fun _ _ _ _ _ => pg_name (i := 3) sc__law_due.nd rfl (Or.inl rfl)) (fun _ _ _ _ _ => (pts_one (pt_cmpR (op_neD hu) (pv 3) (pe_lst pa_nil) (nomark _)))) (fun _ _ _ _ _ => (pv 3))) (pe_lst pa_nil) (nomark _)) (pss_one (ps_ret (pe_tup (pa_cons (pe_tup pa_nil) (pa_cons (pe_tup pa_nil) (pa_cons (pe_tup pa_nil) (pa_cons (pe_tup pa_nil) pa_nil))))))) pss_nil)
  (pss_one (ps_ret (pe_callTy call_tuple_of (by rfl) T.n_tuple (by decide +kernel) (pa_cons (pe_lc (own := [("_law_each", 4)]) (by rfl) sc__law_due.nd (pi_list (pe_call (ok__law_thin T) (hr.mono (by decide)) rfl T.g__law_thin T.F__law_thin.kp (b__law_thin T) .nil pass0 (pa_cons (pv 2) pa_nil))) (blkOk_by (own := [("_law_each", 4)]) (N := N__law_due) (sc := defScope s__law_due) (by decide +kernel)) (fun _ _ _ _ _ => pg_name (i := 4) sc__law_due.nd rfl (Or.inl rfl)) (fun _ _ _ _ _ => pts_nil) (fun _ _ _ _ _ => (pe_callTy call_tuple_of (by rfl) T.n_tuple (by decide +kernel) (pa_cons (pv 4) pa_nil)))) pa_nil)))))), pure__law_due K vs H Q E h⟩
/-! ### _law_right -/
theorem no_ne {a b : Str} (e : a = b) (hb : (!decide (a = b)) = true) : False := by
  rw [decide_eq_true e] at hb
  cases hb
theorem sho_row {u : List Int} (hl : u.length ≤ 9) (hb : bd u 1000) : Sho 1 17310 (rowD u) := sho_up (sho_tup (e := 0) (c := 1921) (ds := u.map .int) fun d hd => by
  obtain ⟨x, hx, rfl⟩ := List.mem_map.mp hd
  exact sho_int (pow_up (hb x hx) (by decide))) (Nat.le_refl _) (by rw [List.length_map]; omega)
theorem sho_four {vs : List (List Int)} (l : vs.length = 4) (h : ∀ v ∈ vs, v.length ≤ 9 ∧ bd v 1000) : Sho 2 80000 (.tuple (vs.map rowD)) := sho_up (sho_tup (e := 1) (c := 17310) (ds := vs.map rowD) fun d hd => by
  obtain ⟨v, hv, rfl⟩ := List.mem_map.mp hd
  exact sho_row (h v hv).1 (h v hv).2) (Nat.le_refl _) (by rw [List.length_map, l]; decide)
theorem four_of : ∀ {vs : List (List Int)}, vs.length = 4 → ∃ a b c d, vs = [a, b, c, d]
  | [a, b, c, d], _ => ⟨a, b, c, d, rfl⟩
theorem tw_add (n m : Int) : tw (n + 12 * m) = tw n := by
  unfold tw
  rw [Int.add_mul_emod_self_left]
theorem far_add (n m : Int) : far (n + 12 * m) = far n := by
  unfold far
  rw [tw_add, show n + 12 * m - 3 = (n - 3) + 12 * m by omega, tw_add]
theorem far_neg (n : Int) : ∀ k, k < 4 → (far (-n)).getD k 0 = if k < 2 then (far n).getD k 0 else - (far n).getD k 0 := by
  have g0 := Int.emod_nonneg n (show (12 : Int) ≠ 0 by decide)
  have g1 := Int.emod_lt_of_pos n (show (0 : Int) < 12 by decide)
  obtain ⟨m, hm⟩ : ∃ m : Nat, n % 12 = (m : Int) := ⟨(n % 12).toNat, by omega⟩
  have e1 : (-n) % 12 = (((12 - m) % 12 : Nat) : Int) := by omega
  have e2 : (-n - 3) % 12 = (((21 - m) % 12 : Nat) : Int) := by omega
  have e3 : (n - 3) % 12 = (((m + 9) % 12 : Nat) : Int) := by omega
  have key : ∀ m : Nat, m < 12 → tabP.getD ((12 - m) % 12) (0, 0) = tabP.getD m (0, 0) ∧ (tabP.getD ((21 - m) % 12) (0, 0)).1 = - (tabP.getD ((m + 9) % 12) (0, 0)).1 ∧ (tabP.getD ((21 - m) % 12) (0, 0)).2 = - (tabP.getD ((m + 9) % 12) (0, 0)).2 := by decide
  obtain ⟨k1, k2, k3⟩ := key m (by omega)
  have t1 : tw (-n) = tw n := by unfold tw; rw [e1, hm, Int.toNat_natCast, Int.toNat_natCast, k1]
  have t2 : tw (-n - 3) = (- (tw (n - 3)).1, - (tw (n - 3)).2) := by
    unfold tw
    rw [e2, e3, Int.toNat_natCast, Int.toNat_natCast, ← k2, ← k3]
  intro k hk
  unfold far
  rw [t1, t2]
  match k, hk with
  | 0, _ => rfl
  | 1, _ => rfl
  | 2, _ => rfl
  | 3, _ => rfl
theorem stV_same {f g : Nat → Rat} (h : ∀ i, f i = g i) (n : Nat) : stV f n = stV g n := by
  rw [show f = g from funext h]
theorem LV_add {dd ss : List Fr} {cs : List Ck} (z : Int) (k : Nat) (x : Rat) (i : Nat) : LV dd ss cs (z + 12) k x i = LV dd ss cs z k x i := by
  unfold LV
  refine stV_same (fun c => ?_) i
  rw [show (z + 12) * ((ckA cs c).t : Int) = z * ((ckA cs c).t : Int) + 12 * ((ckA cs c).t : Int) by rw [Int.add_mul], far_add]
theorem LV_neg {dd ss : List Fr} {cs : List Ck} (z : Int) {k : Nat} (hk : k < 4) (x : Rat) (i : Nat) : LV dd ss cs (0 - z) k x i = (if k < 2 then 1 else -1) * LV dd ss cs z k x i := by
  unfold LV
  refine stV_congr i fun c _ => ?_
  rw [show (0 - z) * ((ckA cs c).t : Int) = - (z * ((ckA cs c).t : Int)) by rw [Int.zero_sub, Int.neg_mul], far_neg _ k hk]
  by_cases q : k < 2
  · rw [if_pos q, if_pos q]
    grind
  · rw [if_neg q, if_neg q, Rat.intCast_neg]
    grind
theorem PtOk.add {dd ss : List Fr} {cs : List Ck} {z : Int} {vs : List (List Int)} (h : PtOk dd ss cs (z + 12) vs) : PtOk dd ss cs z vs := by
  refine ⟨h.l, h.t, ?_⟩
  rcases h.a with ⟨a1, a2⟩ | ⟨a1, c, c0, a2⟩
  · exact .inl ⟨a1, fun k hk x => by rw [← LV_add]; exact a2 k hk x⟩
  · exact .inr ⟨a1, c, c0, fun k hk x => by rw [← LV_add]; exact a2 k hk x⟩
def ngL (u : List Int) : List Int := u.map fun x => 0 - x
theorem gcdL_ng : ∀ u : List Int, gcdL (ngL u) = gcdL u
  | [] => rfl
  | x :: u => by
    show Nat.gcd (0 - x).natAbs (gcdL (ngL u)) = Nat.gcd x.natAbs (gcdL u)
    rw [gcdL_ng u, Int.zero_sub, Int.natAbs_neg]
theorem pI_ng (u : List Int) (x : Rat) : pI (ngL u) x = - pI u x := by
  induction u with
  | nil => show (0 : Rat) = - 0; grind
  | cons a u ih =>
    show pI ((0 - a) :: ngL u) x = _
    rw [pI_cons, pI_cons, ih, Int.zero_sub, Rat.intCast_neg]
    grind
theorem ng_last {u : List Int} (t : u.getLast? ≠ some 0) : (ngL u).getLast? ≠ some 0 := fun q => by
  unfold ngL at q
  rw [List.getLast?_map] at q
  cases e : u.getLast? with
  | none => rw [e] at q; cases q
  | some y =>
    rw [e] at q
    have q : 0 - y = 0 := Option.some.inj q
    exact t (by rw [e]; congr 1; omega)
theorem PtOk.back {dd ss : List Fr} {cs : List Ck} {z : Int} {a b c d : List Int} (h : PtOk dd ss cs z [a, b, c, d]) : PtOk dd ss cs (0 - z) [a, b, ngL c, ngL d] := by
  refine ⟨rfl, fun k => ?_, ?_⟩
  · have := h.t k
    match k with
    | 0 => exact this
    | 1 => exact this
    | 2 => exact ng_last this
    | 3 => exact ng_last this
    | k + 4 => exact this
  · rcases h.a with ⟨a1, a2⟩ | ⟨a1, e, e0, a2⟩
    · refine .inl ⟨fun k => ?_, fun k hk x => by rw [LV_neg z hk, a2 k hk x]; grind⟩
      have := a1 k
      match k with
      | 0 => exact this
      | 1 => exact this
      | 2 =>
        have : c = [] := this
        show ngL c = []
        rw [this]
        rfl
      | 3 =>
        have : d = [] := this
        show ngL d = []
        rw [this]
        rfl
      | k + 4 => exact this
    · refine .inr ⟨?_, e, e0, fun k hk x => ?_⟩
      · have e1 : ∀ c d : List Int, [a, b, c, d].flatten = a ++ (b ++ (c ++ (d ++ []))) := fun c d => rfl
        rw [e1] at a1 ⊢
        rw [List.append_nil, gcdL_append, gcdL_append, gcdL_append] at a1 ⊢
        rw [gcdL_ng, gcdL_ng]
        exact a1
      · have w := a2 k hk x
        rw [LV_neg z hk]
        match k, hk with
        | 0, _ =>
          show pI a x = _
          rw [show pI a x = _ from w, if_pos (by decide)]
          grind
        | 1, _ =>
          show pI b x = _
          rw [show pI b x = _ from w, if_pos (by decide)]
          grind
        | 2, _ =>
          show pI (ngL c) x = _
          rw [pI_ng, show pI c x = _ from w, if_neg (by decide)]
          grind
        | 3, _ =>
          show pI (ngL d) x = _
          rw [pI_ng, show pI d x = _ from w, if_neg (by decide)]
          grind
theorem stp_val {dd ss : List Fr} {cs : List Ck} {ps us : List (List Int)} {z : Int} (PU : PuOk dd ss cs ps) (ST : StOk ps (cs.map Ck.t) z ps.length us) : PtOk dd ss cs z (thinA us) := by
  obtain ⟨c, c0, hc⟩ := PU.c
  refine pt_thin c0 ST.l ST.t fun k hk x => ?_
  rw [ST.v k x, PU.l]
  unfold LV
  refine stV_congr _ fun i hi => ?_
  have ei : cs[i]? = some (ckA cs i) := by
    unfold ckA
    rw [List.getD_eq_getElem?_getD, List.getElem?_eq_getElem hi]
    rfl
  have et : (cs.map Ck.t).getD i 0 = (ckA cs i).t := by
    rw [List.getD_eq_getElem?_getD, List.getElem?_map, ei]
    rfl
  rw [hc i _ x ei, et]
  grind

def pre__law_right : List PyData → Prop := fun ds => True ∧ ds = []
def post__law_right : List PyData → PyData → Prop := fun ds d => d = .bool true
abbrev sp__law_right (K : PySem.W.Frag) : Sp := SpW K pre__law_right post__law_right
theorem len__law_right (K : PySem.W.Frag) (vs : List V) (H : Hp) (Q : VK) (E : XK) (h : sp__law_right K vs H Q E) : vs.length = p__law_right.length := len_W (n := 0) h fun ds hp => by
  obtain ⟨_, e⟩ := hp
  rw [e]; rfl
def t__law_right (K : PySem.W.Frag) : TS :=
  (tSeq (tAsg (tCall (sp__law_engine K) [] E0 (tCons (tVar 0) (tCons (tC (.int 4)) (tCons (tC (.int 6)) tNil)))) (gName 1))
  (tSeq (tIfS (tTest (tOp rEq (tCall (sp__law_pull K) [] E0 (tCons (tVar 0) (tCons (tC (.int 5)) tNil))) (tC (.int 0)))) (tAsg (tTup (tCons (tOp (rIx K) (tVar 1) (tC (.int 0))) (tCons (tTup (tCons (tTup (tCons (tC (.int 0)) (tCons (tC (.int 1)) (tCons (tTup (tCons (tC (.int 2)) (tCons (tC (.int 3)) tNil))) tNil)))) (tCons (tTup (tCons (tC (.int 0)) (tCons (tC (.int 7)) (tCons (tTup (tCons (tC (.int 2)) (tCons (tC (.int 3)) tNil))) tNil)))) tNil))) tNil))) (gName 1)) tNext)
  (tSeq (tIfS (tTest (tOp rNotB (tCall (sp_is_engine K) [] E0 (tCons (tVar 1) tNil)) (tC (.bl true)))) (tRet (tC (.bl false))) tNext)
  (tSeq (tFor (iList K (tLst (tCons (tCall (sp__law_pull K) [] E0 (tCons (tVar 0) (tCons (tC (.int 13)) tNil))) (tCons (tOp (rI0 fun i j => .int (i - j)) (tC (.int 0)) (tCall (sp__law_pull K) [] E0 (tCons (tVar 0) (tCons (tC (.int 7)) tNil)))) (tCons (tOp (rAddA K) (tOp (rMulA K) (tC (.int 12)) (tOp (rAddA K) (tOp (rI CPow fun i j => .int (i ^ j.toNat)) (tC (.int 10)) (tC (.int 12))) (tCall (sp__law_pull K) [] E0 (tCons (tVar 0) (tCons (tC (.int 9)) tNil))))) (tC (.int 5))) (tCons (tC (.int 1)) tNil)))))) (gName 2) (tSeq (tAsg (tCall (sp__law_due K) [] E0 (tCons (tVar 1) (tCons (tVar 2) tNil))) (gName 3))
  (tSeq (tIfS (tOr (tTest (tOp rNe (tCB (rReprD K) (tCons (tCall (sp_stir_parts K) [] E0 (tCons (tVar 1) (tCons (tVar 2) tNil))) tNil)) (tCB (rReprD K) (tCons (tVar 3) tNil)))) (tTest (tOp rNe (tCB (rReprD K) (tCons (tCallN (sp_stir_parts K) (gPV 0 2 [1, 0]) E0 (tCons (tOp (rAddA K) (tVar 2) (tC (.int 12))) (tCons (tVar 1) tNil))) tNil)) (tCB (rReprD K) (tCons (tVar 3) tNil))))) (tRet (tC (.bl false))) tNext)
  (tSeq (tAsg (tOp (rAddA K) (tSl (rSlX2 K) (tVar 3) tNoPart (tPart (tC (.int 2)))) (tCB (rTupleQ K) (tCons (tLc (iTup K (tSl (rSlX2 K) (tVar 3) (tPart (tC (.int 2))) tNoPart)) (gName 5) tYes (tCB (rTupleQ K) (tCons (tLc (iTup K (tVar 5)) (gName 6) tYes (tOp (rI0 fun i j => .int (i - j)) (tC (.int 0)) (tVar 6)) [6]) tNil)) [5]) tNil))) (gName 4))
  (tIfS (tTest (tOp rNe (tCB (rReprD K) (tCons (tCall (sp_stir_parts K) [] E0 (tCons (tVar 1) (tCons (tOp (rI0 fun i j => .int (i - j)) (tC (.int 0)) (tVar 2)) tNil))) tNil)) (tCB (rReprD K) (tCons (tVar 4) tNil)))) (tRet (tC (.bl false))) tNext)))))
  (tRet (tC (.bl true)))))))
theorem pure__law_right (K : PySem.W.Frag) (vs : List V) (H : Hp) (Q : VK) (E : XK) (h : sp__law_right K vs H Q E) : t__law_right K { nx := fun _ H' => Q .non H', rt := Q } (L2.start N__law_right vs) H := body_W h (by decide) fun B w ds hp => by
  obtain ⟨_, e⟩ := hp
  subst e
  unfold t__law_right
  refine st_seq (st_asg (ev_callW rfl (ea_cons (ev_int (ea_cons (ev_int (ea_nil ⟨⟨4, rfl, by decide, by decide⟩, fun X ⟨dd, ss, cs, ed, h⟩ => ?_⟩)))))))
  subst ed
  refine st_seq (st_join (fun L2 Γ2 => ∃ cs : List Ck, L2 = [] ∧ Γ2 = [.well w, .d (engD dd ss cs), .un, .un, .un, .un, .un] ∧ Eng dd ss cs) (st_if (et_test (ev_op (ev_callW rfl (ea_cons (ev_int (ea_nil ⟨⟨5, rfl, by decide, by decide⟩, fun d ⟨m1, p, em, ed, p0, p1⟩ => ?_⟩))))))) ?_)
  · subst ed
    refine ev_int (rok_eqI ⟨_, rfl, fun _ => ?_, fun _ => ?_⟩)
    · refine st_asg (ev_tup (ea_cons (ev_op (ev_var rfl (ev_int (rok_ixsT (d := lineD dd ss) rfl ?_))))))
      walk_at "dd"
      have n1' := h.ln.c1
      refine ⟨[⟨0, 1, (2, 3)⟩, ⟨0, 7, (2, 3)⟩], rfl, rfl, h.l4, h.d4, by show 1 ≤ 2; decide, by show 2 ≤ 6; decide, fun c hc => ?_, fun c hc => ?_, fun c hc => ?_, fun c hc => ?_, fun c hc => ?_⟩
      all_goals
        simp only [List.mem_cons, List.not_mem_nil, or_false] at hc
        rcases hc with rfl | rfl
      · show 0 < dd.length; omega
      · show 0 < dd.length; omega
      · show 1 < 12; decide
      · show 7 < 12; decide
      · exact ⟨by show (0 : Int) < 3; decide, by show Nat.gcd (2 : Int).natAbs (3 : Int).natAbs = 1; decide⟩
      · exact ⟨by show (0 : Int) < 3; decide, by show Nat.gcd (2 : Int).natAbs (3 : Int).natAbs = 1; decide⟩
      · show (2 : Int) ≠ 0; decide
      · show (2 : Int) ≠ 0; decide
      · show (2 : Int).natAbs < 2 ^ 4 ∧ (3 : Int).natAbs < 2 ^ 4; decide
      · show (2 : Int).natAbs < 2 ^ 4 ∧ (3 : Int).natAbs < 2 ^ 4; decide
    · exact st_next ⟨cs, rfl, rfl, h⟩
  rintro L2 Γ2 ⟨cs, rfl, rfl, h⟩
  refine st_seq (st_if (et_test (ev_op (ev_callP (ea_cons (ev_var rfl (ea_nil ⟨⟨dd, ss, cs, rfl, h⟩, fun r er => ?_⟩)))))))
  have er : r = .bool true := er
  subst er
  refine ev_bl (rok_notB ⟨_, rfl, (fun hb => absurd hb (by decide)), fun _ => st_next ?_⟩)
  refine st_seq (st_forL (EvP.mono (k := fun d => ∃ zs : List Int, d = .list (zs.map .int)) ?_ fun d ⟨zs, ed⟩ => ⟨zs.map .int, ed, fun i L2 Γ2 => ∃ s2 s3 s4 s5 s6 : Sl, L2 = [] ∧ Γ2 = [.well w, .d (engD dd ss cs), s2, s3, s4, s5, s6], ⟨_, _, _, _, _, rfl, rfl⟩, ?_, ?_⟩))
  · refine ev_lst (ea_cons (ev_callW rfl (ea_cons (ev_int (ea_nil ⟨⟨13, rfl, by decide, by decide⟩, fun d ⟨m1, a, em, ed, a0, a1⟩ => ?_⟩)))))
    subst ed
    refine ea_cons (ev_op (ev_int (ev_callW rfl (ea_cons (ev_int (ea_nil ⟨⟨7, rfl, by decide, by decide⟩, fun d ⟨m1, b, em, ed, b0, b1⟩ => ?_⟩))))))
    subst ed
    refine rok_i0 (ea_cons (ev_op (ev_op (ev_int (ev_op (ev_op (ev_int (ev_int (rok_i (C := CPow) ⟨by decide, by decide, by decide⟩ (ev_callW rfl (ea_cons (ev_int (ea_nil ⟨⟨9, rfl, by decide, by decide⟩, fun d ⟨m1, c, em, ed, c0, c1⟩ => ?_⟩)))))))))))))
    subst ed
    refine ro_add (ro_mul (.inl ⟨by decide, by decide⟩) (ev_int (ro_add (ea_cons (ev_int (ea_nil ⟨by simp, ?_⟩))))))
    exact ⟨[a, 0 - b, 12 * (10 ^ (12 : Int).toNat + c) + 5, 1], rfl⟩
  · rintro i d' L2 Γ2 g hi ⟨s2, s3, s4, s5, s6, rfl, rfl⟩
    obtain ⟨z, _, rfl⟩ : ∃ z, zs[i]? = some z ∧ d' = .int z := map_get hi
    refine st_seq (st_asg (ev_callP (ea_cons (ev_var rfl (ea_cons (ev_var rfl (ea_nil ⟨⟨dd, ss, cs, z, rfl, h⟩, fun d ⟨dd', ss', cs', z', vs, e, ed, PT, sz⟩ => ?_⟩)))))))
    have e2 := (List.cons.inj (List.cons.inj e).2).1
    obtain ⟨rfl, rfl, rfl⟩ := engD_inj (List.cons.inj e).1
    obtain rfl : z = z' := PyData.int.inj e2
    subst ed
    have SH := sho_four PT.l sz
    refine st_seq (st_if (et_or (et_test (ev_op (ev_cb (ea_cons (ev_callP (ea_cons (ev_var rfl (ea_cons (ev_var rfl (ea_nil ⟨⟨dd, ss, cs, z, rfl, h⟩, fun r ⟨dd', ss', cs', z', ps, us, e, PU, ST, er⟩ => ?_⟩))))))))))))
    have e2 := (List.cons.inj (List.cons.inj e).2).1
    obtain ⟨rfl, rfl, rfl⟩ := engD_inj (List.cons.inj e).1
    obtain rfl : z = z' := PyData.int.inj e2
    rw [(stp_val PU ST).uniq PT] at er
    subst er
    refine ea_nil (cok_show SH rfl (by decide) (by decide) (ev_cb (ea_cons (ev_var rfl (ea_nil (cok_show SH rfl (by decide) (by decide) (rok_neS ⟨_, rfl, fun _ => ?_, (fun hb => (no_ne rfl hb).elim)⟩)))))))
    refine et_test (ev_op (ev_cb (ea_cons (ev_callN (ea_cons (ev_op (ev_var rfl (ev_int (ro_add (ea_cons (ev_var rfl (ea_nil ⟨⟨dd, ss, cs, z + 12, rfl, h⟩, fun r ⟨dd', ss', cs', z', ps, us, e, PU, ST, er⟩ => ?_⟩))))))))))))
    have e : [engD dd ss cs, PyData.int (z + 12)] = [engD dd' ss' cs', .int z'] := e
    have e2 := (List.cons.inj (List.cons.inj e).2).1
    obtain ⟨rfl, rfl, rfl⟩ := engD_inj (List.cons.inj e).1
    obtain rfl : z + 12 = z' := PyData.int.inj e2
    rw [(stp_val PU ST).add.uniq PT] at er
    subst er
    refine ea_nil (cok_show SH rfl (by decide) (by decide) (ev_cb (ea_cons (ev_var rfl (ea_nil (cok_show SH rfl (by decide) (by decide) (rok_neS ⟨_, rfl, (fun hb => (no_ne rfl hb).elim), fun _ => st_next ?_⟩)))))))
    obtain ⟨a, b, c, d, rfl⟩ := four_of PT.l
    have PB := PT.back
    have szB : ∀ v ∈ [a, b, ngL c, ngL d], v.length ≤ 9 ∧ bd v 1000 := fun v hv => by
      have ng : ∀ u : List Int, u.length ≤ 9 ∧ bd u 1000 → (ngL u).length ≤ 9 ∧ bd (ngL u) 1000 := fun u ⟨h1, h2⟩ => by
        refine ⟨by unfold ngL; rw [List.length_map]; exact h1, fun x hx => ?_⟩
        obtain ⟨y, hy, rfl⟩ := List.mem_map.mp hx
        rw [Int.zero_sub, Int.natAbs_neg]
        exact h2 y hy
      simp only [List.mem_cons, List.not_mem_nil, or_false] at hv
      rcases hv with rfl | rfl | rfl | rfl
      · exact sz _ (by simp)
      · exact sz _ (by simp)
      · exact ng _ (sz _ (by simp))
      · exact ng _ (sz _ (by simp))
    have SB := sho_four PB.l szB
    have len9 : ∀ v ∈ [c, d], v.length ≤ 9 := fun v hv => by
      simp only [List.mem_cons, List.not_mem_nil, or_false] at hv
      rcases hv with rfl | rfl
      · exact (sz _ (by simp)).1
      · exact (sz _ (by simp)).1
    refine st_seq (st_asg (ev_op (ev_sl (ev_var rfl (eo_no (eo_some (ev_int ⟨_, rfl, so_tup ?_⟩)))))))
    have c1 : DL.cutD ([a, b, c, d].map rowD) none (some 2) = [rowD a, rowD b] := rfl
    rw [c1]
    refine ev_cb (ea_cons (ev_new (en_lcT (wipe1 5) (ev_sl (ev_var rfl (eo_some (ev_int ⟨_, rfl, eo_no (so_tup ?_)⟩)))))))
    have c2 : DL.cutD ([a, b, c, d].map rowD) (some 2) none = [rowD c, rowD d] := rfl
    rw [c2]
    refine ⟨_, rfl, by show 2 ≤ 100000; decide, fun i acc => acc = ([rowD (ngL c), rowD (ngL d)]).take i, ⟨rfl, fun i D d' acc hi hJ hin => ?_⟩, fun acc hJ => ?_⟩
    · obtain ⟨v, hv, rfl⟩ := rows_get (us := [c, d]) hi
      refine et_yes ⟨fun _ => ?_, fun z => nomatch z⟩
      refine ev_cb (ea_cons (ev_new (en_lcT (wipe1 6) (ev_var rfl ⟨v.map .int, rfl, by rw [List.length_map]; exact Nat.le_trans (len9 v (List.mem_of_getElem? hv)) (by decide), fun j acc2 => acc2 = (ngL (v.take j)).map .int, ⟨rfl, fun j D2 d2 acc2 hj hJ2 hin2 => ?_⟩, fun acc2 hJ2 => ?_⟩))))
      · obtain ⟨x, hx, rfl⟩ : ∃ x, v[j]? = some x ∧ d2 = .int x := map_get hj
        refine et_yes ⟨fun _ => ?_, fun z => nomatch z⟩
        refine ev_op (ev_int (ev_var rfl (rok_i0 ?_)))
        show acc2 ++ [_] = (ngL (v.take (j + 1))).map .int
        rw [hJ2, List.take_add_one, hx]
        unfold ngL
        rw [List.map_append, List.map_append]
        rfl
      · rw [List.length_map, List.take_length] at hJ2
        subst hJ2
        refine ea_nil (co_tupL ?_)
        show acc ++ [rowD (ngL v)] = ([rowD (ngL c), rowD (ngL d)]).take (i + 1)
        rw [hJ]
        match i, hv with
        | 0, hv =>
          obtain rfl : c = v := Option.some.inj hv
          rfl
        | 1, hv =>
          obtain rfl : d = v := Option.some.inj hv
          rfl
        | i + 2, hv => exact absurd hv (by simp)
    · have hJ : acc = [rowD (ngL c), rowD (ngL d)] := hJ
      subst hJ
      refine ea_nil (co_tupL (ro_catT (by show 4 ≤ 1000000; decide) ?_))
      have e4 : PyData.tuple ([rowD a, rowD b] ++ [rowD (ngL c), rowD (ngL d)]) = .tuple ([a, b, ngL c, ngL d].map rowD) := rfl
      rw [e4]
      refine st_if (et_test (ev_op (ev_cb (ea_cons (ev_callP (ea_cons (ev_var rfl (ea_cons (ev_op (ev_int (ev_var rfl (rok_i0 (ea_nil ⟨⟨dd, ss, cs, 0 - z, rfl, h⟩, fun r ⟨dd', ss', cs', z', ps, us, e, PU, ST, er⟩ => ?_⟩)))))))))))))
      have e2 := (List.cons.inj (List.cons.inj e).2).1
      obtain ⟨rfl, rfl, rfl⟩ := engD_inj (List.cons.inj e).1
      obtain rfl : 0 - z = z' := PyData.int.inj e2
      rw [(stp_val PU ST).uniq PB] at er
      subst er
      refine ea_nil (cok_show SB rfl (by decide) (by decide) (ev_cb (ea_cons (ev_var rfl (ea_nil (cok_show SB rfl (by decide) (by decide) (rok_neS ⟨_, rfl, (fun hb => (no_ne rfl hb).elim), fun _ => st_next ?_⟩)))))))
      exact ⟨_, _, _, s5, s6, rfl, rfl⟩
  · rintro L2 Γ2 ⟨s2, s3, s4, s5, s6, rfl, rfl⟩
    exact st_ret (ev_bl rfl)
theorem ok__law_right (T : Tx K mg) : FnG P w K mg base 9 T.a__law_right T.d__law_right p__law_right (sp__law_right K) := by
  refine Fun.okG T.F__law_right sc__law_right (fun vs H Q E h => len__law_right K vs H Q E h) (fun cdv A outer s H vs Q E gd hr h => ?_)
  have hu := hr.units
  exact ⟨t__law_right K, (pss_cons (ps_set (i := 1) sc__law_right.nd rfl (Or.inl rfl) (pe_call (ok__law_engine T) (hr.mono (by decide)) rfl T.g__law_engine T.F__law_engine.kp (b__law_engine T) .nil pass0 (pa_cons (pv 0) (pa_cons pe_int (pa_cons pe_int pa_nil)))))
  (pss_cons (ps_if (pt_cmpR op_eq (pe_call (ok__law_pull T) (hr.mono (by decide)) rfl T.g__law_pull T.F__law_pull.kp (b__law_pull T) .nil pass0 (pa_cons (pv 0) (pa_cons pe_int pa_nil))) pe_int (nomark _)) (pss_one (ps_set (i := 1) sc__law_right.nd rfl (Or.inl rfl) (pe_tup (pa_cons (pe_ix ix_seq (pv 1) pe_int (fun _ _ => rfl)) (pa_cons (pe_tup (pa_cons (pe_tup (pa_cons pe_int (pa_cons pe_int (pa_cons (pe_tup (pa_cons pe_int (pa_cons pe_int pa_nil))) pa_nil)))) (pa_cons (pe_tup (pa_cons pe_int (pa_cons pe_int (pa_cons (pe_tup (pa_cons pe_int (pa_cons pe_int pa_nil))) pa_nil)))) pa_nil))) pa_nil))))) pss_nil)
  (pss_cons (ps_if (pt_cmpR op_notBl (pe_call (ok_is_engine T) (hr.mono (by decide)) rfl T.g_is_engine T.F_is_engine.kp (b_is_engine T) .nil pass0 (pa_cons (pv 1) pa_nil)) pe_bl (nomark _)) (pss_one (ps_ret pe_bl)) pss_nil)
  (pss_cons (ps_for PassesOwn.never rfl (pi_list (pe_lst (pa_cons (pe_call (ok__law_pull T) (hr.mono (by decide)) rfl T.g__law_pull T.F__law_pull.kp (b__law_pull T) .nil pass0 (pa_cons (pv 0) (pa_cons pe_int pa_nil))) (pa_cons (pe_op op_sub pe_int (pe_call (ok__law_pull T) (hr.mono (by decide)) rfl T.g__law_pull T.F__law_pull.kp (b__law_pull T) .nil pass0 (pa_cons (pv 0) (pa_cons pe_int pa_nil)))) (pa_cons (pe_op op_addA (pe_op op_mulA pe_int (pe_op op_addA (pe_op op_pow pe_int pe_int) (pe_call (ok__law_pull T) (hr.mono (by decide)) rfl T.g__law_pull T.F__law_pull.kp (b__law_pull T) .nil pass0 (pa_cons (pv 0) (pa_cons pe_int pa_nil))))) pe_int) (pa_cons pe_int pa_nil)))))) (pg_name (i := 2) sc__law_right.nd rfl (Or.inl rfl)) (pss_cons (ps_set (i := 3) sc__law_right.nd rfl (Or.inl rfl) (pe_call (ok__law_due T) (hr.mono (by decide)) rfl T.g__law_due T.F__law_due.kp (b__law_due T) .nil pass0 (pa_cons (pv 1) (pa_cons (pv 2) pa_nil))))
  (pss_cons (ps_if (PW.pt (pw_or (pt_cmpR op_ne (pe_callB (call_reprD hu gd) (by rfl) T.n_repr (by decide +kernel) (pa_cons (pe_call (ok_stir_parts T) (hr.mono (by decide)) rfl T.g_stir_parts T.F_stir_parts.kp (b_stir_parts T) .nil pass0 (pa_cons (pv 1) (pa_cons (pv 2) pa_nil))) pa_nil)) (pe_callB (call_reprD hu gd) (by rfl) T.n_repr (by decide +kernel) (pa_cons (pv 3) pa_nil)) (nomark _)) (pw_or1 (pt_cmpR op_ne (pe_callB (call_reprD hu gd) (by rfl) T.n_repr (by decide +kernel) (pa_cons (pe_callN (ok_stir_parts T) (hr.mono (by decide)) rfl T.g_stir_parts T.F_stir_parts.kp (kb_stir_parts_0 T) pass0 (pk_cons (pe_op op_addA (pv 2) pe_int) (pk_cons (pv 1) pk_nil))) pa_nil)) (pe_callB (call_reprD hu gd) (by rfl) T.n_repr (by decide +kernel) (pa_cons (pv 3) pa_nil)) (nomark _))))) (pss_one (ps_ret pe_bl)) pss_nil)
  (pss_cons (ps_set (i := 4) sc__law_right.nd rfl (Or.inl rfl) (pe_op op_addA (pe_slice sl_any (pv 3) po_none (po_some pe_int)) (pe_callTy call_tuple_of (by rfl) T.n_tuple (by decide +kernel) (pa_cons (pe_lc (own := [("_law_row", 5)]) (by rfl) sc__law_right.nd (pi_tup (pe_slice sl_any (pv 3) (po_some pe_int) po_none)) (blkOk_by (own := [("_law_row", 5)]) (N := N__law_right) (sc := defScope s__law_right) (by decide +kernel)) (fun _ _ _ _ _ => pg_name (i := 5) sc__law_right.nd rfl (Or.inl rfl)) (fun _ _ _ _ _ => pts_nil) (fun _ _ _ _ _ => (pe_callTy call_tuple_of (by rfl) T.n_tuple (by decide +kernel) (pa_cons (pe_lc (own := [("_law_each", 6)]) (by rfl) sc__law_right.nd (pi_tup (pv 5)) (blkOk_by (own := [("_law_each", 6)]) (N := N__law_right) (sc := sx__law_right_0) (by decide +kernel)) (fun _ _ _ _ _ => pg_name (i := 6) sc__law_right.nd rfl (Or.inl rfl)) (fun _ _ _ _ _ => pts_nil) (fun _ _ _ _ _ => (pe_op op_sub pe_int (pv 6)))) pa_nil)))) pa_nil))))
  (pss_one (ps_if (pt_cmpR op_ne (pe_callB (call_reprD hu gd) (by rfl) T.n_repr (by decide +kernel) (pa_cons (pe_call (ok_stir_parts T) (hr.mono (by decide)) rfl T.g_stir_parts T.F_stir_parts.kp (b_stir_parts T) .nil pass0 (pa_cons (pv 1) (pa_cons (pe_op op_sub pe_int (pv 2)) pa_nil))) pa_nil)) (pe_callB (call_reprD hu gd) (by rfl) T.n_repr (by decide +kernel) (pa_cons (pv 4) pa_nil)) (nomark _)) (pss_one (ps_ret pe_bl)) pss_nil))))))
  (pss_one (ps_ret pe_bl)))))), pure__law_right K vs H Q E h⟩
/-! ### law -/
def sp_law (K : PySem.W.Frag) : Sp := fun vs H Q _ => ∃ (a : Addr) (ns : List Int), vs = [.ref a] ∧ SqL K H a (ns.map V.int) ∧ ns.length ≤ 63 ∧ ∀ H', Q (.bl true) H'
theorem len_law (K : PySem.W.Frag) (vs : List V) (H : Hp) (Q : VK) (E : XK) (h : sp_law K vs H Q E) : vs.length = p_law.length := by
  obtain ⟨a, ns, rfl, _⟩ := h
  rfl
def t_law (K : PySem.W.Frag) : TS :=
  (tRet (tCB (rAll K) (tCons (tLc (iRng1 (tCons (tC (.int 2)) tNil)) (gName 1) tYes (tCall (sp__law_right K) [] E0 (tCons (tCall (sp__law_spring K) [] E0 (tCons (tVar 0) (tCons (tVar 1) tNil))) tNil)) [1]) tNil)))
theorem pure_law (K : PySem.W.Frag) (vs : List V) (H : Hp) (Q : VK) (E : XK) (h : sp_law K vs H Q E) : t_law K { nx := fun _ H' => Q .non H', rt := Q } (L2.start N_law vs) H := by
  obtain ⟨a, ns, rfl, hS, hlen, q⟩ := h
  unfold t_law
  refine ⟨2, rfl, by decide, by decide, fun D hD => lc_range (lo := 0) (n := 2) (fun i H' => Same H H' ∧ H' D = some (.lst (List.replicate i (V.bl true)))) ⟨same_upd hD, upd_same⟩ (fun i H' hi S => ?_) (fun H' S => ?_)⟩
  · obtain ⟨s2, hDl⟩ := S
    rw [show (0 : Int) + (i : Int) = (i : Int) from Int.zero_add _]
    refine ⟨rfl, ?_⟩
    refine iteT (B := Same H H' ∧ H' D = some (.lst (List.replicate (i + 1) (V.bl true)))) ?_
    refine ⟨_, rfl, _, rfl, ?_⟩
    unfold tNil
    show sp__law_spring K [.ref a, .int (i : Int)] H' _ E0
    refine ⟨a, ns, i, rfl, s2.seq hS, hlen, by omega, fun w H3 s3 hw hwell => ?_⟩
    show sp__law_right K [.ref w] H3 _ E0
    refine ⟨[w], w, [], [], rfl, List.mem_singleton.mpr rfl, hwell, fun m hm => ?_, .nil, ⟨trivial, rfl⟩, fun v d H4 hk _ dn hd => ?_⟩
    · rw [List.mem_singleton.mp hm]
      obtain ⟨n, b, c, e, _⟩ := hwell
      exact ⟨_, e⟩
    · rw [show d = .bool true from hd] at dn
      rw [dn_bool dn]
      have Dw : D ≠ w := fun z => by
        rw [z, hw] at hDl
        cases hDl
      refine ⟨_, hk D _ Dw (s3 _ _ hDl), ?_, fun b o e => ?_, ?_⟩
      · rw [List.length_replicate]
        exact Nat.lt_of_lt_of_le (show i < 1000 by omega) (by decide)
      · have bD : b ≠ D := fun z => by
          rw [z, hD] at e
          cases e
        have bw : b ≠ w := fun z => by
          have := s2 _ _ e
          rw [z, hw] at this
          cases this
        rw [upd_ne bD]
        exact hk b o bw (s3 _ _ (s2 _ _ e))
      · rw [upd_same, List.replicate_succ']
  · refine ⟨D, List.replicate 2 true, rfl, .inl (.inl ?_), ?_⟩
    · rw [S.2]
      rfl
    · exact q H'
theorem ok_law (T : Tx K mg) : FnG P w K mg base 10 T.a_law T.d_law p_law (sp_law K) := by
  refine Fun.okG T.F_law sc_law (fun vs H Q E h => len_law K vs H Q E h) (fun cdv A outer s H vs Q E gd hr h => ?_)
  exact ⟨t_law K, (pss_one (ps_ret (pe_callB (cr_all rfl) (by rfl) T.n_all (by decide +kernel) (pa_cons (pe_lc (own := [("_law_turn", 1)]) (by rfl) sc_law.nd (pi_range1 (by rfl) T.n_range (pa_cons pe_int pa_nil)) (blkOk_by (own := [("_law_turn", 1)]) (N := N_law) (sc := defScope s_law) (by decide +kernel)) (fun _ _ _ _ _ => pg_name (i := 1) sc_law.nd rfl (Or.inl rfl)) (fun _ _ _ _ _ => pts_nil) (fun _ _ _ _ _ => (pe_callG (ok__law_right T) (hr.mono (by decide)) gd rfl T.g__law_right T.F__law_right.kp (b__law_right T) (pa_cons (pe_call (ok__law_spring T) (hr.mono (by decide)) rfl T.g__law_spring T.F__law_spring.kp (b__law_spring T) .nil pass0 (pa_cons (pv 0) (pa_cons (pv 1) pa_nil))) pa_nil)))) pa_nil)))), pure_law K vs H Q E h⟩
end
theorem all_mk {l : PySem.W.OpenLaw} {w : World} {K : PySem.W.Frag} {h : Heap} {mg : Str → Option Value} {fa : Addr} (X : K.In h) (G : h.Ns mainGlobals mg) (hfa : mg "law" = some (.ref fa))
    {f_is_whole f_is_fraction f_is_fraction_from_nought f_is_index f_trimmed f_blend f_raised f_content f_shrunk f_run_parts f_is_row_of_fractions f_is_line f_thinned_all f_pushes_of f_twelfths_of f_stir_of f_is_crank f_is_engine f_check_engine f_check_order f_stir_by f_stir_parts f__law_spring f__law_pull f__law_from f__law_common f__law_frac f__law_plus f__law_by f__law_over f__law_cut f__law_add f__law_mul f__law_thin f__law_weight f__law_stay f__law_line f__law_run f__law_engine f__law_twelfths f__law_stir f__law_due f__law_right f_law  : Addr} {od_is_whole an_is_whole od_is_fraction an_is_fraction od_is_fraction_from_nought an_is_fraction_from_nought od_is_index an_is_index od_trimmed an_trimmed od_blend an_blend od_raised an_raised od_content an_content od_shrunk an_shrunk od_run_parts an_run_parts od_is_row_of_fractions an_is_row_of_fractions od_is_line an_is_line od_thinned_all an_thinned_all od_pushes_of an_pushes_of od_twelfths_of an_twelfths_of od_stir_of an_stir_of od_is_crank an_is_crank od_is_engine an_is_engine od_check_engine an_check_engine od_check_order an_check_order od_stir_by an_stir_by od_stir_parts an_stir_parts od__law_spring an__law_spring od__law_pull an__law_pull od__law_from an__law_from od__law_common an__law_common od__law_frac an__law_frac od__law_plus an__law_plus od__law_by an__law_by od__law_over an__law_over od__law_cut an__law_cut od__law_add an__law_add od__law_mul an__law_mul od__law_thin an__law_thin od__law_weight an__law_weight od__law_stay an__law_stay od__law_line an__law_line od__law_run an__law_run od__law_engine an__law_engine od__law_twelfths an__law_twelfths od__law_stir an__law_stir od__law_due an__law_due od__law_right an__law_right od_law an_law : Option Addr} {sl_is_whole sl_is_fraction sl_is_fraction_from_nought sl_is_index sl_trimmed sl_blend sl_raised sl_content sl_shrunk sl_run_parts sl_is_row_of_fractions sl_is_line sl_thinned_all sl_pushes_of sl_twelfths_of sl_stir_of sl_is_crank sl_is_engine sl_check_engine sl_check_order sl_stir_by sl_stir_parts sl__law_spring sl__law_pull sl__law_from sl__law_common sl__law_frac sl__law_plus sl__law_by sl__law_over sl__law_cut sl__law_add sl__law_mul sl__law_thin sl__law_weight sl__law_stay sl__law_line sl__law_run sl__law_engine sl__law_twelfths sl__law_stir sl__law_due sl__law_right sl_law : Array (Option Value)} {oc_is_whole kV_is_whole dc_is_whole pm_is_whole cd_is_whole ct_is_whole oc_is_fraction kV_is_fraction dc_is_fraction pm_is_fraction cd_is_fraction ct_is_fraction oc_is_fraction_from_nought kV_is_fraction_from_nought dc_is_fraction_from_nought pm_is_fraction_from_nought cd_is_fraction_from_nought ct_is_fraction_from_nought oc_is_index kV_is_index dc_is_index pm_is_index cd_is_index ct_is_index oc_trimmed kV_trimmed dc_trimmed pm_trimmed cd_trimmed ct_trimmed oc_blend kV_blend dc_blend pm_blend cd_blend ct_blend oc_raised kV_raised dc_raised pm_raised cd_raised ct_raised oc_content kV_content dc_content pm_content cd_content ct_content oc_shrunk kV_shrunk dc_shrunk pm_shrunk cd_shrunk ct_shrunk oc_run_parts kV_run_parts dc_run_parts pm_run_parts cd_run_parts ct_run_parts oc_is_row_of_fractions kV_is_row_of_fractions dc_is_row_of_fractions pm_is_row_of_fractions cd_is_row_of_fractions ct_is_row_of_fractions oc_is_line kV_is_line dc_is_line pm_is_line cd_is_line ct_is_line oc_thinned_all kV_thinned_all dc_thinned_all pm_thinned_all cd_thinned_all ct_thinned_all oc_pushes_of kV_pushes_of dc_pushes_of pm_pushes_of cd_pushes_of ct_pushes_of oc_twelfths_of kV_twelfths_of dc_twelfths_of pm_twelfths_of cd_twelfths_of ct_twelfths_of oc_stir_of kV_stir_of dc_stir_of pm_stir_of cd_stir_of ct_stir_of oc_is_crank kV_is_crank dc_is_crank pm_is_crank cd_is_crank ct_is_crank oc_is_engine kV_is_engine dc_is_engine pm_is_engine cd_is_engine ct_is_engine oc_check_engine kV_check_engine dc_check_engine pm_check_engine cd_check_engine ct_check_engine oc_check_order kV_check_order dc_check_order pm_check_order cd_check_order ct_check_order oc_stir_by kV_stir_by dc_stir_by pm_stir_by cd_stir_by ct_stir_by oc_stir_parts kV_stir_parts dc_stir_parts pm_stir_parts cd_stir_parts ct_stir_parts oc__law_spring kV__law_spring dc__law_spring pm__law_spring cd__law_spring ct__law_spring oc__law_pull kV__law_pull dc__law_pull pm__law_pull cd__law_pull ct__law_pull oc__law_from kV__law_from dc__law_from pm__law_from cd__law_from ct__law_from oc__law_common kV__law_common dc__law_common pm__law_common cd__law_common ct__law_common oc__law_frac kV__law_frac dc__law_frac pm__law_frac cd__law_frac ct__law_frac oc__law_plus kV__law_plus dc__law_plus pm__law_plus cd__law_plus ct__law_plus oc__law_by kV__law_by dc__law_by pm__law_by cd__law_by ct__law_by oc__law_over kV__law_over dc__law_over pm__law_over cd__law_over ct__law_over oc__law_cut kV__law_cut dc__law_cut pm__law_cut cd__law_cut ct__law_cut oc__law_add kV__law_add dc__law_add pm__law_add cd__law_add ct__law_add oc__law_mul kV__law_mul dc__law_mul pm__law_mul cd__law_mul ct__law_mul oc__law_thin kV__law_thin dc__law_thin pm__law_thin cd__law_thin ct__law_thin oc__law_weight kV__law_weight dc__law_weight pm__law_weight cd__law_weight ct__law_weight oc__law_stay kV__law_stay dc__law_stay pm__law_stay cd__law_stay ct__law_stay oc__law_line kV__law_line dc__law_line pm__law_line cd__law_line ct__law_line oc__law_run kV__law_run dc__law_run pm__law_run cd__law_run ct__law_run oc__law_engine kV__law_engine dc__law_engine pm__law_engine cd__law_engine ct__law_engine oc__law_twelfths kV__law_twelfths dc__law_twelfths pm__law_twelfths cd__law_twelfths ct__law_twelfths oc__law_stir kV__law_stir dc__law_stir pm__law_stir cd__law_stir ct__law_stir oc__law_due kV__law_due dc__law_due pm__law_due cd__law_due ct__law_due oc__law_right kV__law_right dc__law_right pm__law_right cd__law_right ct__law_right oc_law kV_law dc_law pm_law cd_law ct_law : Value} {k_DOUBLED_COSINES : Addr} {od_DOUBLED_COSINES : Option Addr} {n_DOUBLED_COSINES : Nat} {sl_DOUBLED_COSINES : Array (Option Value)} {e0_DOUBLED_COSINES e1_DOUBLED_COSINES e2_DOUBLED_COSINES e3_DOUBLED_COSINES e4_DOUBLED_COSINES e5_DOUBLED_COSINES e6_DOUBLED_COSINES e7_DOUBLED_COSINES e8_DOUBLED_COSINES e9_DOUBLED_COSINES e10_DOUBLED_COSINES e11_DOUBLED_COSINES : Addr} {od0_DOUBLED_COSINES od1_DOUBLED_COSINES od2_DOUBLED_COSINES od3_DOUBLED_COSINES od4_DOUBLED_COSINES od5_DOUBLED_COSINES od6_DOUBLED_COSINES od7_DOUBLED_COSINES od8_DOUBLED_COSINES od9_DOUBLED_COSINES od10_DOUBLED_COSINES od11_DOUBLED_COSINES : Option Addr} {ta0_DOUBLED_COSINES ta1_DOUBLED_COSINES ta2_DOUBLED_COSINES ta3_DOUBLED_COSINES ta4_DOUBLED_COSINES ta5_DOUBLED_COSINES ta6_DOUBLED_COSINES ta7_DOUBLED_COSINES ta8_DOUBLED_COSINES ta9_DOUBLED_COSINES ta10_DOUBLED_COSINES ta11_DOUBLED_COSINES tb0_DOUBLED_COSINES tb1_DOUBLED_COSINES tb2_DOUBLED_COSINES tb3_DOUBLED_COSINES tb4_DOUBLED_COSINES tb5_DOUBLED_COSINES tb6_DOUBLED_COSINES tb7_DOUBLED_COSINES tb8_DOUBLED_COSINES tb9_DOUBLED_COSINES tb10_DOUBLED_COSINES tb11_DOUBLED_COSINES : Tok} {n0_DOUBLED_COSINES n1_DOUBLED_COSINES n2_DOUBLED_COSINES n3_DOUBLED_COSINES n4_DOUBLED_COSINES n5_DOUBLED_COSINES n6_DOUBLED_COSINES n7_DOUBLED_COSINES n8_DOUBLED_COSINES n9_DOUBLED_COSINES n10_DOUBLED_COSINES n11_DOUBLED_COSINES : Nat} {sl0_DOUBLED_COSINES sl1_DOUBLED_COSINES sl2_DOUBLED_COSINES sl3_DOUBLED_COSINES sl4_DOUBLED_COSINES sl5_DOUBLED_COSINES sl6_DOUBLED_COSINES sl7_DOUBLED_COSINES sl8_DOUBLED_COSINES sl9_DOUBLED_COSINES sl10_DOUBLED_COSINES sl11_DOUBLED_COSINES : Array (Option Value)} {t_MOST_CRANKS t_MOST_DISCS t_QUARTER t_TWELFTHS : Tok}
    (a_is_whole : PySem.W.nsIn K mainGlobals "is_whole" = some (some (.ref f_is_whole)))
    (l_is_whole : K.lookup f_is_whole = some ⟨oc_is_whole, od_is_whole, .func (PySem.W.fnOf "is_whole" "is_whole" (defArgs s_is_whole) (defBody s_is_whole) (defScope s_is_whole) .none kV_is_whole dc_is_whole pm_is_whole an_is_whole cd_is_whole ct_is_whole), sl_is_whole⟩)
    (c_is_whole : PySem.W.codeIn K cd_is_whole "is_whole" = true)
    (k_is_whole : PySem.W.keepIn K (.ref f_is_whole) = true)
    (a_is_fraction : PySem.W.nsIn K mainGlobals "is_fraction" = some (some (.ref f_is_fraction)))
    (l_is_fraction : K.lookup f_is_fraction = some ⟨oc_is_fraction, od_is_fraction, .func (PySem.W.fnOf "is_fraction" "is_fraction" (defArgs s_is_fraction) (defBody s_is_fraction) (defScope s_is_fraction) .none kV_is_fraction dc_is_fraction pm_is_fraction an_is_fraction cd_is_fraction ct_is_fraction), sl_is_fraction⟩)
    (c_is_fraction : PySem.W.codeIn K cd_is_fraction "is_fraction" = true)
    (k_is_fraction : PySem.W.keepIn K (.ref f_is_fraction) = true)
    (a_is_fraction_from_nought : PySem.W.nsIn K mainGlobals "is_fraction_from_nought" = some (some (.ref f_is_fraction_from_nought)))
    (l_is_fraction_from_nought : K.lookup f_is_fraction_from_nought = some ⟨oc_is_fraction_from_nought, od_is_fraction_from_nought, .func (PySem.W.fnOf "is_fraction_from_nought" "is_fraction_from_nought" (defArgs s_is_fraction_from_nought) (defBody s_is_fraction_from_nought) (defScope s_is_fraction_from_nought) .none kV_is_fraction_from_nought dc_is_fraction_from_nought pm_is_fraction_from_nought an_is_fraction_from_nought cd_is_fraction_from_nought ct_is_fraction_from_nought), sl_is_fraction_from_nought⟩)
    (c_is_fraction_from_nought : PySem.W.codeIn K cd_is_fraction_from_nought "is_fraction_from_nought" = true)
    (k_is_fraction_from_nought : PySem.W.keepIn K (.ref f_is_fraction_from_nought) = true)
    (a_is_index : PySem.W.nsIn K mainGlobals "is_index" = some (some (.ref f_is_index)))
    (l_is_index : K.lookup f_is_index = some ⟨oc_is_index, od_is_index, .func (PySem.W.fnOf "is_index" "is_index" (defArgs s_is_index) (defBody s_is_index) (defScope s_is_index) .none kV_is_index dc_is_index pm_is_index an_is_index cd_is_index ct_is_index), sl_is_index⟩)
    (c_is_index : PySem.W.codeIn K cd_is_index "is_index" = true)
    (k_is_index : PySem.W.keepIn K (.ref f_is_index) = true)
    (a_trimmed : PySem.W.nsIn K mainGlobals "trimmed" = some (some (.ref f_trimmed)))
    (l_trimmed : K.lookup f_trimmed = some ⟨oc_trimmed, od_trimmed, .func (PySem.W.fnOf "trimmed" "trimmed" (defArgs s_trimmed) (defBody s_trimmed) (defScope s_trimmed) .none kV_trimmed dc_trimmed pm_trimmed an_trimmed cd_trimmed ct_trimmed), sl_trimmed⟩)
    (c_trimmed : PySem.W.codeIn K cd_trimmed "trimmed" = true)
    (k_trimmed : PySem.W.keepIn K (.ref f_trimmed) = true)
    (a_blend : PySem.W.nsIn K mainGlobals "blend" = some (some (.ref f_blend)))
    (l_blend : K.lookup f_blend = some ⟨oc_blend, od_blend, .func (PySem.W.fnOf "blend" "blend" (defArgs s_blend) (defBody s_blend) (defScope s_blend) .none kV_blend dc_blend pm_blend an_blend cd_blend ct_blend), sl_blend⟩)
    (c_blend : PySem.W.codeIn K cd_blend "blend" = true)
    (k_blend : PySem.W.keepIn K (.ref f_blend) = true)
    (a_raised : PySem.W.nsIn K mainGlobals "raised" = some (some (.ref f_raised)))
    (l_raised : K.lookup f_raised = some ⟨oc_raised, od_raised, .func (PySem.W.fnOf "raised" "raised" (defArgs s_raised) (defBody s_raised) (defScope s_raised) .none kV_raised dc_raised pm_raised an_raised cd_raised ct_raised), sl_raised⟩)
    (c_raised : PySem.W.codeIn K cd_raised "raised" = true)
    (k_raised : PySem.W.keepIn K (.ref f_raised) = true)
    (a_content : PySem.W.nsIn K mainGlobals "content" = some (some (.ref f_content)))
    (l_content : K.lookup f_content = some ⟨oc_content, od_content, .func (PySem.W.fnOf "content" "content" (defArgs s_content) (defBody s_content) (defScope s_content) .none kV_content dc_content pm_content an_content cd_content ct_content), sl_content⟩)
    (c_content : PySem.W.codeIn K cd_content "content" = true)
    (k_content : PySem.W.keepIn K (.ref f_content) = true)
    (a_shrunk : PySem.W.nsIn K mainGlobals "shrunk" = some (some (.ref f_shrunk)))
    (l_shrunk : K.lookup f_shrunk = some ⟨oc_shrunk, od_shrunk, .func (PySem.W.fnOf "shrunk" "shrunk" (defArgs s_shrunk) (defBody s_shrunk) (defScope s_shrunk) .none kV_shrunk dc_shrunk pm_shrunk an_shrunk cd_shrunk ct_shrunk), sl_shrunk⟩)
    (c_shrunk : PySem.W.codeIn K cd_shrunk "shrunk" = true)
    (k_shrunk : PySem.W.keepIn K (.ref f_shrunk) = true)
    (a_run_parts : PySem.W.nsIn K mainGlobals "run_parts" = some (some (.ref f_run_parts)))
    (l_run_parts : K.lookup f_run_parts = some ⟨oc_run_parts, od_run_parts, .func (PySem.W.fnOf "run_parts" "run_parts" (defArgs s_run_parts) (defBody s_run_parts) (defScope s_run_parts) .none kV_run_parts dc_run_parts pm_run_parts an_run_parts cd_run_parts ct_run_parts), sl_run_parts⟩)
    (c_run_parts : PySem.W.codeIn K cd_run_parts "run_parts" = true)
    (k_run_parts : PySem.W.keepIn K (.ref f_run_parts) = true)
    (a_is_row_of_fractions : PySem.W.nsIn K mainGlobals "is_row_of_fractions" = some (some (.ref f_is_row_of_fractions)))
    (l_is_row_of_fractions : K.lookup f_is_row_of_fractions = some ⟨oc_is_row_of_fractions, od_is_row_of_fractions, .func (PySem.W.fnOf "is_row_of_fractions" "is_row_of_fractions" (defArgs s_is_row_of_fractions) (defBody s_is_row_of_fractions) (defScope s_is_row_of_fractions) .none kV_is_row_of_fractions dc_is_row_of_fractions pm_is_row_of_fractions an_is_row_of_fractions cd_is_row_of_fractions ct_is_row_of_fractions), sl_is_row_of_fractions⟩)
    (c_is_row_of_fractions : PySem.W.codeIn K cd_is_row_of_fractions "is_row_of_fractions" = true)
    (k_is_row_of_fractions : PySem.W.keepIn K (.ref f_is_row_of_fractions) = true)
    (a_is_line : PySem.W.nsIn K mainGlobals "is_line" = some (some (.ref f_is_line)))
    (l_is_line : K.lookup f_is_line = some ⟨oc_is_line, od_is_line, .func (PySem.W.fnOf "is_line" "is_line" (defArgs s_is_line) (defBody s_is_line) (defScope s_is_line) .none kV_is_line dc_is_line pm_is_line an_is_line cd_is_line ct_is_line), sl_is_line⟩)
    (c_is_line : PySem.W.codeIn K cd_is_line "is_line" = true)
    (k_is_line : PySem.W.keepIn K (.ref f_is_line) = true)
    (a_thinned_all : PySem.W.nsIn K mainGlobals "thinned_all" = some (some (.ref f_thinned_all)))
    (l_thinned_all : K.lookup f_thinned_all = some ⟨oc_thinned_all, od_thinned_all, .func (PySem.W.fnOf "thinned_all" "thinned_all" (defArgs s_thinned_all) (defBody s_thinned_all) (defScope s_thinned_all) .none kV_thinned_all dc_thinned_all pm_thinned_all an_thinned_all cd_thinned_all ct_thinned_all), sl_thinned_all⟩)
    (c_thinned_all : PySem.W.codeIn K cd_thinned_all "thinned_all" = true)
    (k_thinned_all : PySem.W.keepIn K (.ref f_thinned_all) = true)
    (a_pushes_of : PySem.W.nsIn K mainGlobals "pushes_of" = some (some (.ref f_pushes_of)))
    (l_pushes_of : K.lookup f_pushes_of = some ⟨oc_pushes_of, od_pushes_of, .func (PySem.W.fnOf "pushes_of" "pushes_of" (defArgs s_pushes_of) (defBody s_pushes_of) (defScope s_pushes_of) .none kV_pushes_of dc_pushes_of pm_pushes_of an_pushes_of cd_pushes_of ct_pushes_of), sl_pushes_of⟩)
    (c_pushes_of : PySem.W.codeIn K cd_pushes_of "pushes_of" = true)
    (k_pushes_of : PySem.W.keepIn K (.ref f_pushes_of) = true)
    (a_twelfths_of : PySem.W.nsIn K mainGlobals "twelfths_of" = some (some (.ref f_twelfths_of)))
    (l_twelfths_of : K.lookup f_twelfths_of = some ⟨oc_twelfths_of, od_twelfths_of, .func (PySem.W.fnOf "twelfths_of" "twelfths_of" (defArgs s_twelfths_of) (defBody s_twelfths_of) (defScope s_twelfths_of) .none kV_twelfths_of dc_twelfths_of pm_twelfths_of an_twelfths_of cd_twelfths_of ct_twelfths_of), sl_twelfths_of⟩)
    (c_twelfths_of : PySem.W.codeIn K cd_twelfths_of "twelfths_of" = true)
    (k_twelfths_of : PySem.W.keepIn K (.ref f_twelfths_of) = true)
    (a_stir_of : PySem.W.nsIn K mainGlobals "stir_of" = some (some (.ref f_stir_of)))
    (l_stir_of : K.lookup f_stir_of = some ⟨oc_stir_of, od_stir_of, .func (PySem.W.fnOf "stir_of" "stir_of" (defArgs s_stir_of) (defBody s_stir_of) (defScope s_stir_of) .none kV_stir_of dc_stir_of pm_stir_of an_stir_of cd_stir_of ct_stir_of), sl_stir_of⟩)
    (c_stir_of : PySem.W.codeIn K cd_stir_of "stir_of" = true)
    (k_stir_of : PySem.W.keepIn K (.ref f_stir_of) = true)
    (a_is_crank : PySem.W.nsIn K mainGlobals "is_crank" = some (some (.ref f_is_crank)))
    (l_is_crank : K.lookup f_is_crank = some ⟨oc_is_crank, od_is_crank, .func (PySem.W.fnOf "is_crank" "is_crank" (defArgs s_is_crank) (defBody s_is_crank) (defScope s_is_crank) .none kV_is_crank dc_is_crank pm_is_crank an_is_crank cd_is_crank ct_is_crank), sl_is_crank⟩)
    (c_is_crank : PySem.W.codeIn K cd_is_crank "is_crank" = true)
    (k_is_crank : PySem.W.keepIn K (.ref f_is_crank) = true)
    (a_is_engine : PySem.W.nsIn K mainGlobals "is_engine" = some (some (.ref f_is_engine)))
    (l_is_engine : K.lookup f_is_engine = some ⟨oc_is_engine, od_is_engine, .func (PySem.W.fnOf "is_engine" "is_engine" (defArgs s_is_engine) (defBody s_is_engine) (defScope s_is_engine) .none kV_is_engine dc_is_engine pm_is_engine an_is_engine cd_is_engine ct_is_engine), sl_is_engine⟩)
    (c_is_engine : PySem.W.codeIn K cd_is_engine "is_engine" = true)
    (k_is_engine : PySem.W.keepIn K (.ref f_is_engine) = true)
    (a_check_engine : PySem.W.nsIn K mainGlobals "check_engine" = some (some (.ref f_check_engine)))
    (l_check_engine : K.lookup f_check_engine = some ⟨oc_check_engine, od_check_engine, .func (PySem.W.fnOf "check_engine" "check_engine" (defArgs s_check_engine) (defBody s_check_engine) (defScope s_check_engine) .none kV_check_engine dc_check_engine pm_check_engine an_check_engine cd_check_engine ct_check_engine), sl_check_engine⟩)
    (c_check_engine : PySem.W.codeIn K cd_check_engine "check_engine" = true)
    (k_check_engine : PySem.W.keepIn K (.ref f_check_engine) = true)
    (a_check_order : PySem.W.nsIn K mainGlobals "check_order" = some (some (.ref f_check_order)))
    (l_check_order : K.lookup f_check_order = some ⟨oc_check_order, od_check_order, .func (PySem.W.fnOf "check_order" "check_order" (defArgs s_check_order) (defBody s_check_order) (defScope s_check_order) .none kV_check_order dc_check_order pm_check_order an_check_order cd_check_order ct_check_order), sl_check_order⟩)
    (c_check_order : PySem.W.codeIn K cd_check_order "check_order" = true)
    (k_check_order : PySem.W.keepIn K (.ref f_check_order) = true)
    (a_stir_by : PySem.W.nsIn K mainGlobals "stir_by" = some (some (.ref f_stir_by)))
    (l_stir_by : K.lookup f_stir_by = some ⟨oc_stir_by, od_stir_by, .func (PySem.W.fnOf "stir_by" "stir_by" (defArgs s_stir_by) (defBody s_stir_by) (defScope s_stir_by) .none kV_stir_by dc_stir_by pm_stir_by an_stir_by cd_stir_by ct_stir_by), sl_stir_by⟩)
    (c_stir_by : PySem.W.codeIn K cd_stir_by "stir_by" = true)
    (k_stir_by : PySem.W.keepIn K (.ref f_stir_by) = true)
    (a_stir_parts : PySem.W.nsIn K mainGlobals "stir_parts" = some (some (.ref f_stir_parts)))
    (l_stir_parts : K.lookup f_stir_parts = some ⟨oc_stir_parts, od_stir_parts, .func (PySem.W.fnOf "stir_parts" "stir_parts" (defArgs s_stir_parts) (defBody s_stir_parts) (defScope s_stir_parts) .none kV_stir_parts dc_stir_parts pm_stir_parts an_stir_parts cd_stir_parts ct_stir_parts), sl_stir_parts⟩)
    (c_stir_parts : PySem.W.codeIn K cd_stir_parts "stir_parts" = true)
    (k_stir_parts : PySem.W.keepIn K (.ref f_stir_parts) = true)
    (a__law_spring : PySem.W.nsIn K mainGlobals "_law_spring" = some (some (.ref f__law_spring)))
    (l__law_spring : K.lookup f__law_spring = some ⟨oc__law_spring, od__law_spring, .func (PySem.W.fnOf "_law_spring" "_law_spring" (defArgs s__law_spring) (defBody s__law_spring) (defScope s__law_spring) .none kV__law_spring dc__law_spring pm__law_spring an__law_spring cd__law_spring ct__law_spring), sl__law_spring⟩)
    (c__law_spring : PySem.W.codeIn K cd__law_spring "_law_spring" = true)
    (k__law_spring : PySem.W.keepIn K (.ref f__law_spring) = true)
    (a__law_pull : PySem.W.nsIn K mainGlobals "_law_pull" = some (some (.ref f__law_pull)))
    (l__law_pull : K.lookup f__law_pull = some ⟨oc__law_pull, od__law_pull, .func (PySem.W.fnOf "_law_pull" "_law_pull" (defArgs s__law_pull) (defBody s__law_pull) (defScope s__law_pull) .none kV__law_pull dc__law_pull pm__law_pull an__law_pull cd__law_pull ct__law_pull), sl__law_pull⟩)
    (c__law_pull : PySem.W.codeIn K cd__law_pull "_law_pull" = true)
    (k__law_pull : PySem.W.keepIn K (.ref f__law_pull) = true)
    (a__law_from : PySem.W.nsIn K mainGlobals "_law_from" = some (some (.ref f__law_from)))
    (l__law_from : K.lookup f__law_from = some ⟨oc__law_from, od__law_from, .func (PySem.W.fnOf "_law_from" "_law_from" (defArgs s__law_from) (defBody s__law_from) (defScope s__law_from) .none kV__law_from dc__law_from pm__law_from an__law_from cd__law_from ct__law_from), sl__law_from⟩)
    (c__law_from : PySem.W.codeIn K cd__law_from "_law_from" = true)
    (k__law_from : PySem.W.keepIn K (.ref f__law_from) = true)
    (a__law_common : PySem.W.nsIn K mainGlobals "_law_common" = some (some (.ref f__law_common)))
    (l__law_common : K.lookup f__law_common = some ⟨oc__law_common, od__law_common, .func (PySem.W.fnOf "_law_common" "_law_common" (defArgs s__law_common) (defBody s__law_common) (defScope s__law_common) .none kV__law_common dc__law_common pm__law_common an__law_common cd__law_common ct__law_common), sl__law_common⟩)
    (c__law_common : PySem.W.codeIn K cd__law_common "_law_common" = true)
    (k__law_common : PySem.W.keepIn K (.ref f__law_common) = true)
    (a__law_frac : PySem.W.nsIn K mainGlobals "_law_frac" = some (some (.ref f__law_frac)))
    (l__law_frac : K.lookup f__law_frac = some ⟨oc__law_frac, od__law_frac, .func (PySem.W.fnOf "_law_frac" "_law_frac" (defArgs s__law_frac) (defBody s__law_frac) (defScope s__law_frac) .none kV__law_frac dc__law_frac pm__law_frac an__law_frac cd__law_frac ct__law_frac), sl__law_frac⟩)
    (c__law_frac : PySem.W.codeIn K cd__law_frac "_law_frac" = true)
    (k__law_frac : PySem.W.keepIn K (.ref f__law_frac) = true)
    (a__law_plus : PySem.W.nsIn K mainGlobals "_law_plus" = some (some (.ref f__law_plus)))
    (l__law_plus : K.lookup f__law_plus = some ⟨oc__law_plus, od__law_plus, .func (PySem.W.fnOf "_law_plus" "_law_plus" (defArgs s__law_plus) (defBody s__law_plus) (defScope s__law_plus) .none kV__law_plus dc__law_plus pm__law_plus an__law_plus cd__law_plus ct__law_plus), sl__law_plus⟩)
    (c__law_plus : PySem.W.codeIn K cd__law_plus "_law_plus" = true)
    (k__law_plus : PySem.W.keepIn K (.ref f__law_plus) = true)
    (a__law_by : PySem.W.nsIn K mainGlobals "_law_by" = some (some (.ref f__law_by)))
    (l__law_by : K.lookup f__law_by = some ⟨oc__law_by, od__law_by, .func (PySem.W.fnOf "_law_by" "_law_by" (defArgs s__law_by) (defBody s__law_by) (defScope s__law_by) .none kV__law_by dc__law_by pm__law_by an__law_by cd__law_by ct__law_by), sl__law_by⟩)
    (c__law_by : PySem.W.codeIn K cd__law_by "_law_by" = true)
    (k__law_by : PySem.W.keepIn K (.ref f__law_by) = true)
    (a__law_over : PySem.W.nsIn K mainGlobals "_law_over" = some (some (.ref f__law_over)))
    (l__law_over : K.lookup f__law_over = some ⟨oc__law_over, od__law_over, .func (PySem.W.fnOf "_law_over" "_law_over" (defArgs s__law_over) (defBody s__law_over) (defScope s__law_over) .none kV__law_over dc__law_over pm__law_over an__law_over cd__law_over ct__law_over), sl__law_over⟩)
    (c__law_over : PySem.W.codeIn K cd__law_over "_law_over" = true)
    (k__law_over : PySem.W.keepIn K (.ref f__law_over) = true)
    (a__law_cut : PySem.W.nsIn K mainGlobals "_law_cut" = some (some (.ref f__law_cut)))
    (l__law_cut : K.lookup f__law_cut = some ⟨oc__law_cut, od__law_cut, .func (PySem.W.fnOf "_law_cut" "_law_cut" (defArgs s__law_cut) (defBody s__law_cut) (defScope s__law_cut) .none kV__law_cut dc__law_cut pm__law_cut an__law_cut cd__law_cut ct__law_cut), sl__law_cut⟩)
    (c__law_cut : PySem.W.codeIn K cd__law_cut "_law_cut" = true)
    (k__law_cut : PySem.W.keepIn K (.ref f__law_cut) = true)
    (a__law_add : PySem.W.nsIn K mainGlobals "_law_add" = some (some (.ref f__law_add)))
    (l__law_add : K.lookup f__law_add = some ⟨oc__law_add, od__law_add, .func (PySem.W.fnOf "_law_add" "_law_add" (defArgs s__law_add) (defBody s__law_add) (defScope s__law_add) .none kV__law_add dc__law_add pm__law_add an__law_add cd__law_add ct__law_add), sl__law_add⟩)
    (c__law_add : PySem.W.codeIn K cd__law_add "_law_add" = true)
    (k__law_add : PySem.W.keepIn K (.ref f__law_add) = true)
    (a__law_mul : PySem.W.nsIn K mainGlobals "_law_mul" = some (some (.ref f__law_mul)))
    (l__law_mul : K.lookup f__law_mul = some ⟨oc__law_mul, od__law_mul, .func (PySem.W.fnOf "_law_mul" "_law_mul" (defArgs s__law_mul) (defBody s__law_mul) (defScope s__law_mul) .none kV__law_mul dc__law_mul pm__law_mul an__law_mul cd__law_mul ct__law_mul), sl__law_mul⟩)
    (c__law_mul : PySem.W.codeIn K cd__law_mul "_law_mul" = true)
    (k__law_mul : PySem.W.keepIn K (.ref f__law_mul) = true)
    (a__law_thin : PySem.W.nsIn K mainGlobals "_law_thin" = some (some (.ref f__law_thin)))
    (l__law_thin : K.lookup f__law_thin = some ⟨oc__law_thin, od__law_thin, .func (PySem.W.fnOf "_law_thin" "_law_thin" (defArgs s__law_thin) (defBody s__law_thin) (defScope s__law_thin) .none kV__law_thin dc__law_thin pm__law_thin an__law_thin cd__law_thin ct__law_thin), sl__law_thin⟩)
    (c__law_thin : PySem.W.codeIn K cd__law_thin "_law_thin" = true)
    (k__law_thin : PySem.W.keepIn K (.ref f__law_thin) = true)
    (a__law_weight : PySem.W.nsIn K mainGlobals "_law_weight" = some (some (.ref f__law_weight)))
    (l__law_weight : K.lookup f__law_weight = some ⟨oc__law_weight, od__law_weight, .func (PySem.W.fnOf "_law_weight" "_law_weight" (defArgs s__law_weight) (defBody s__law_weight) (defScope s__law_weight) .none kV__law_weight dc__law_weight pm__law_weight an__law_weight cd__law_weight ct__law_weight), sl__law_weight⟩)
    (c__law_weight : PySem.W.codeIn K cd__law_weight "_law_weight" = true)
    (k__law_weight : PySem.W.keepIn K (.ref f__law_weight) = true)
    (a__law_stay : PySem.W.nsIn K mainGlobals "_law_stay" = some (some (.ref f__law_stay)))
    (l__law_stay : K.lookup f__law_stay = some ⟨oc__law_stay, od__law_stay, .func (PySem.W.fnOf "_law_stay" "_law_stay" (defArgs s__law_stay) (defBody s__law_stay) (defScope s__law_stay) .none kV__law_stay dc__law_stay pm__law_stay an__law_stay cd__law_stay ct__law_stay), sl__law_stay⟩)
    (c__law_stay : PySem.W.codeIn K cd__law_stay "_law_stay" = true)
    (k__law_stay : PySem.W.keepIn K (.ref f__law_stay) = true)
    (a__law_line : PySem.W.nsIn K mainGlobals "_law_line" = some (some (.ref f__law_line)))
    (l__law_line : K.lookup f__law_line = some ⟨oc__law_line, od__law_line, .func (PySem.W.fnOf "_law_line" "_law_line" (defArgs s__law_line) (defBody s__law_line) (defScope s__law_line) .none kV__law_line dc__law_line pm__law_line an__law_line cd__law_line ct__law_line), sl__law_line⟩)
    (c__law_line : PySem.W.codeIn K cd__law_line "_law_line" = true)
    (k__law_line : PySem.W.keepIn K (.ref f__law_line) = true)
    (a__law_run : PySem.W.nsIn K mainGlobals "_law_run" = some (some (.ref f__law_run)))
    (l__law_run : K.lookup f__law_run = some ⟨oc__law_run, od__law_run, .func (PySem.W.fnOf "_law_run" "_law_run" (defArgs s__law_run) (defBody s__law_run) (defScope s__law_run) .none kV__law_run dc__law_run pm__law_run an__law_run cd__law_run ct__law_run), sl__law_run⟩)
    (c__law_run : PySem.W.codeIn K cd__law_run "_law_run" = true)
    (k__law_run : PySem.W.keepIn K (.ref f__law_run) = true)
    (a__law_engine : PySem.W.nsIn K mainGlobals "_law_engine" = some (some (.ref f__law_engine)))
    (l__law_engine : K.lookup f__law_engine = some ⟨oc__law_engine, od__law_engine, .func (PySem.W.fnOf "_law_engine" "_law_engine" (defArgs s__law_engine) (defBody s__law_engine) (defScope s__law_engine) .none kV__law_engine dc__law_engine pm__law_engine an__law_engine cd__law_engine ct__law_engine), sl__law_engine⟩)
    (c__law_engine : PySem.W.codeIn K cd__law_engine "_law_engine" = true)
    (k__law_engine : PySem.W.keepIn K (.ref f__law_engine) = true)
    (a__law_twelfths : PySem.W.nsIn K mainGlobals "_law_twelfths" = some (some (.ref f__law_twelfths)))
    (l__law_twelfths : K.lookup f__law_twelfths = some ⟨oc__law_twelfths, od__law_twelfths, .func (PySem.W.fnOf "_law_twelfths" "_law_twelfths" (defArgs s__law_twelfths) (defBody s__law_twelfths) (defScope s__law_twelfths) .none kV__law_twelfths dc__law_twelfths pm__law_twelfths an__law_twelfths cd__law_twelfths ct__law_twelfths), sl__law_twelfths⟩)
    (c__law_twelfths : PySem.W.codeIn K cd__law_twelfths "_law_twelfths" = true)
    (k__law_twelfths : PySem.W.keepIn K (.ref f__law_twelfths) = true)
    (a__law_stir : PySem.W.nsIn K mainGlobals "_law_stir" = some (some (.ref f__law_stir)))
    (l__law_stir : K.lookup f__law_stir = some ⟨oc__law_stir, od__law_stir, .func (PySem.W.fnOf "_law_stir" "_law_stir" (defArgs s__law_stir) (defBody s__law_stir) (defScope s__law_stir) .none kV__law_stir dc__law_stir pm__law_stir an__law_stir cd__law_stir ct__law_stir), sl__law_stir⟩)
    (c__law_stir : PySem.W.codeIn K cd__law_stir "_law_stir" = true)
    (k__law_stir : PySem.W.keepIn K (.ref f__law_stir) = true)
    (a__law_due : PySem.W.nsIn K mainGlobals "_law_due" = some (some (.ref f__law_due)))
    (l__law_due : K.lookup f__law_due = some ⟨oc__law_due, od__law_due, .func (PySem.W.fnOf "_law_due" "_law_due" (defArgs s__law_due) (defBody s__law_due) (defScope s__law_due) .none kV__law_due dc__law_due pm__law_due an__law_due cd__law_due ct__law_due), sl__law_due⟩)
    (c__law_due : PySem.W.codeIn K cd__law_due "_law_due" = true)
    (k__law_due : PySem.W.keepIn K (.ref f__law_due) = true)
    (a__law_right : PySem.W.nsIn K mainGlobals "_law_right" = some (some (.ref f__law_right)))
    (l__law_right : K.lookup f__law_right = some ⟨oc__law_right, od__law_right, .func (PySem.W.fnOf "_law_right" "_law_right" (defArgs s__law_right) (defBody s__law_right) (defScope s__law_right) .none kV__law_right dc__law_right pm__law_right an__law_right cd__law_right ct__law_right), sl__law_right⟩)
    (c__law_right : PySem.W.codeIn K cd__law_right "_law_right" = true)
    (k__law_right : PySem.W.keepIn K (.ref f__law_right) = true)
    (a_law : PySem.W.nsIn K mainGlobals "law" = some (some (.ref f_law)))
    (l_law : K.lookup f_law = some ⟨oc_law, od_law, .func (PySem.W.fnOf "law" "law" (defArgs s_law) (defBody s_law) (defScope s_law) .none kV_law dc_law pm_law an_law cd_law ct_law), sl_law⟩)
    (c_law : PySem.W.codeIn K cd_law "law" = true)
    (k_law : PySem.W.keepIn K (.ref f_law) = true)
    (q_DOUBLED_COSINES : PySem.W.nsIn K mainGlobals "DOUBLED_COSINES" = some (some (.ref k_DOUBLED_COSINES))) (l_DOUBLED_COSINES : K.lookup k_DOUBLED_COSINES = some ⟨.type "tuple", od_DOUBLED_COSINES, .seq #[.ref e0_DOUBLED_COSINES, .ref e1_DOUBLED_COSINES, .ref e2_DOUBLED_COSINES, .ref e3_DOUBLED_COSINES, .ref e4_DOUBLED_COSINES, .ref e5_DOUBLED_COSINES, .ref e6_DOUBLED_COSINES, .ref e7_DOUBLED_COSINES, .ref e8_DOUBLED_COSINES, .ref e9_DOUBLED_COSINES, .ref e10_DOUBLED_COSINES, .ref e11_DOUBLED_COSINES] n_DOUBLED_COSINES, sl_DOUBLED_COSINES⟩)
    (l0_DOUBLED_COSINES : K.lookup e0_DOUBLED_COSINES = some ⟨.type "tuple", od0_DOUBLED_COSINES, .seq #[.int 2 ta0_DOUBLED_COSINES, .int 0 tb0_DOUBLED_COSINES] n0_DOUBLED_COSINES, sl0_DOUBLED_COSINES⟩)
    (l1_DOUBLED_COSINES : K.lookup e1_DOUBLED_COSINES = some ⟨.type "tuple", od1_DOUBLED_COSINES, .seq #[.int 0 ta1_DOUBLED_COSINES, .int 1 tb1_DOUBLED_COSINES] n1_DOUBLED_COSINES, sl1_DOUBLED_COSINES⟩)
    (l2_DOUBLED_COSINES : K.lookup e2_DOUBLED_COSINES = some ⟨.type "tuple", od2_DOUBLED_COSINES, .seq #[.int 1 ta2_DOUBLED_COSINES, .int 0 tb2_DOUBLED_COSINES] n2_DOUBLED_COSINES, sl2_DOUBLED_COSINES⟩)
    (l3_DOUBLED_COSINES : K.lookup e3_DOUBLED_COSINES = some ⟨.type "tuple", od3_DOUBLED_COSINES, .seq #[.int 0 ta3_DOUBLED_COSINES, .int 0 tb3_DOUBLED_COSINES] n3_DOUBLED_COSINES, sl3_DOUBLED_COSINES⟩)
    (l4_DOUBLED_COSINES : K.lookup e4_DOUBLED_COSINES = some ⟨.type "tuple", od4_DOUBLED_COSINES, .seq #[.int (-1) ta4_DOUBLED_COSINES, .int 0 tb4_DOUBLED_COSINES] n4_DOUBLED_COSINES, sl4_DOUBLED_COSINES⟩)
    (l5_DOUBLED_COSINES : K.lookup e5_DOUBLED_COSINES = some ⟨.type "tuple", od5_DOUBLED_COSINES, .seq #[.int 0 ta5_DOUBLED_COSINES, .int (-1) tb5_DOUBLED_COSINES] n5_DOUBLED_COSINES, sl5_DOUBLED_COSINES⟩)
    (l6_DOUBLED_COSINES : K.lookup e6_DOUBLED_COSINES = some ⟨.type "tuple", od6_DOUBLED_COSINES, .seq #[.int (-2) ta6_DOUBLED_COSINES, .int 0 tb6_DOUBLED_COSINES] n6_DOUBLED_COSINES, sl6_DOUBLED_COSINES⟩)
    (l7_DOUBLED_COSINES : K.lookup e7_DOUBLED_COSINES = some ⟨.type "tuple", od7_DOUBLED_COSINES, .seq #[.int 0 ta7_DOUBLED_COSINES, .int (-1) tb7_DOUBLED_COSINES] n7_DOUBLED_COSINES, sl7_DOUBLED_COSINES⟩)
    (l8_DOUBLED_COSINES : K.lookup e8_DOUBLED_COSINES = some ⟨.type "tuple", od8_DOUBLED_COSINES, .seq #[.int (-1) ta8_DOUBLED_COSINES, .int 0 tb8_DOUBLED_COSINES] n8_DOUBLED_COSINES, sl8_DOUBLED_COSINES⟩)
    (l9_DOUBLED_COSINES : K.lookup e9_DOUBLED_COSINES = some ⟨.type "tuple", od9_DOUBLED_COSINES, .seq #[.int 0 ta9_DOUBLED_COSINES, .int 0 tb9_DOUBLED_COSINES] n9_DOUBLED_COSINES, sl9_DOUBLED_COSINES⟩)
    (l10_DOUBLED_COSINES : K.lookup e10_DOUBLED_COSINES = some ⟨.type "tuple", od10_DOUBLED_COSINES, .seq #[.int 1 ta10_DOUBLED_COSINES, .int 0 tb10_DOUBLED_COSINES] n10_DOUBLED_COSINES, sl10_DOUBLED_COSINES⟩)
    (l11_DOUBLED_COSINES : K.lookup e11_DOUBLED_COSINES = some ⟨.type "tuple", od11_DOUBLED_COSINES, .seq #[.int 0 ta11_DOUBLED_COSINES, .int 1 tb11_DOUBLED_COSINES] n11_DOUBLED_COSINES, sl11_DOUBLED_COSINES⟩)
    (q_MOST_CRANKS : PySem.W.nsIn K mainGlobals "MOST_CRANKS" = some (some (.int 8 t_MOST_CRANKS)))
    (q_MOST_DISCS : PySem.W.nsIn K mainGlobals "MOST_DISCS" = some (some (.int 8 t_MOST_DISCS)))
    (q_QUARTER : PySem.W.nsIn K mainGlobals "QUARTER" = some (some (.int 3 t_QUARTER)))
    (q_TWELFTHS : PySem.W.nsIn K mainGlobals "TWELFTHS" = some (some (.int 12 t_TWELFTHS)))
    (q_abs : PySem.W.nsIn K mainGlobals "abs" = some none)
    (q_all : PySem.W.nsIn K mainGlobals "all" = some none)
    (q_bool : PySem.W.nsIn K mainGlobals "bool" = some none)
    (q_enumerate : PySem.W.nsIn K mainGlobals "enumerate" = some none)
    (q_gcd : PySem.W.nsIn K mainGlobals "gcd" = some (some (.builtin "math.gcd")))
    (q_int : PySem.W.nsIn K mainGlobals "int" = some none)
    (q_isinstance : PySem.W.nsIn K mainGlobals "isinstance" = some none)
    (q_lcm : PySem.W.nsIn K mainGlobals "lcm" = some (some (.builtin "math.lcm")))
    (q_len : PySem.W.nsIn K mainGlobals "len" = some none)
    (q_list : PySem.W.nsIn K mainGlobals "list" = some none)
    (q_max : PySem.W.nsIn K mainGlobals "max" = some none)
    (q_range : PySem.W.nsIn K mainGlobals "range" = some none)
    (q_repr : PySem.W.nsIn K mainGlobals "repr" = some none)
    (q_tuple : PySem.W.nsIn K mainGlobals "tuple" = some none)
    (q_zip : PySem.W.nsIn K mainGlobals "zip" = some none) :
    ∃ fd : FuncData, (∀ (s : Shared) (v : Value), BindsTo s fd ⟨[v], []⟩ [("_law_script", v)]) ∧ ∀ base : Heap, K.In base → base.Ns mainGlobals mg → FnG l.prog w K mg base 10 fa fd ["_law_script"] (sp_law K) := by
  have e := hfa.symm.trans (PySem.W.mg_of X G a_law)
  cases e
  have T : { T : Tx K mg // T.a_law = fa ∧ T.d_law = PySem.W.fnOf "law" "law" (defArgs s_law) (defBody s_law) (defScope s_law) .none kV_law dc_law pm_law an_law cd_law ct_law } := ⟨{ a_is_whole := f_is_whole, d_is_whole := _, F_is_whole := fun_mk l_is_whole c_is_whole k_is_whole, g_is_whole := PySem.W.mg_of X G a_is_whole, a_is_fraction := f_is_fraction, d_is_fraction := _, F_is_fraction := fun_mk l_is_fraction c_is_fraction k_is_fraction, g_is_fraction := PySem.W.mg_of X G a_is_fraction, a_is_fraction_from_nought := f_is_fraction_from_nought, d_is_fraction_from_nought := _, F_is_fraction_from_nought := fun_mk l_is_fraction_from_nought c_is_fraction_from_nought k_is_fraction_from_nought, g_is_fraction_from_nought := PySem.W.mg_of X G a_is_fraction_from_nought, a_is_index := f_is_index, d_is_index := _, F_is_index := fun_mk l_is_index c_is_index k_is_index, g_is_index := PySem.W.mg_of X G a_is_index, a_trimmed := f_trimmed, d_trimmed := _, F_trimmed := fun_mk l_trimmed c_trimmed k_trimmed, g_trimmed := PySem.W.mg_of X G a_trimmed, a_blend := f_blend, d_blend := _, F_blend := fun_mk l_blend c_blend k_blend, g_blend := PySem.W.mg_of X G a_blend, a_raised := f_raised, d_raised := _, F_raised := fun_mk l_raised c_raised k_raised, g_raised := PySem.W.mg_of X G a_raised, a_content := f_content, d_content := _, F_content := fun_mk l_content c_content k_content, g_content := PySem.W.mg_of X G a_content, a_shrunk := f_shrunk, d_shrunk := _, F_shrunk := fun_mk l_shrunk c_shrunk k_shrunk, g_shrunk := PySem.W.mg_of X G a_shrunk, a_run_parts := f_run_parts, d_run_parts := _, F_run_parts := fun_mk l_run_parts c_run_parts k_run_parts, g_run_parts := PySem.W.mg_of X G a_run_parts, a_is_row_of_fractions := f_is_row_of_fractions, d_is_row_of_fractions := _, F_is_row_of_fractions := fun_mk l_is_row_of_fractions c_is_row_of_fractions k_is_row_of_fractions, g_is_row_of_fractions := PySem.W.mg_of X G a_is_row_of_fractions, a_is_line := f_is_line, d_is_line := _, F_is_line := fun_mk l_is_line c_is_line k_is_line, g_is_line := PySem.W.mg_of X G a_is_line, a_thinned_all := f_thinned_all, d_thinned_all := _, F_thinned_all := fun_mk l_thinned_all c_thinned_all k_thinned_all, g_thinned_all := PySem.W.mg_of X G a_thinned_all, a_pushes_of := f_pushes_of, d_pushes_of := _, F_pushes_of := fun_mk l_pushes_of c_pushes_of k_pushes_of, g_pushes_of := PySem.W.mg_of X G a_pushes_of, a_twelfths_of := f_twelfths_of, d_twelfths_of := _, F_twelfths_of := fun_mk l_twelfths_of c_twelfths_of k_twelfths_of, g_twelfths_of := PySem.W.mg_of X G a_twelfths_of, a_stir_of := f_stir_of, d_stir_of := _, F_stir_of := fun_mk l_stir_of c_stir_of k_stir_of, g_stir_of := PySem.W.mg_of X G a_stir_of, a_is_crank := f_is_crank, d_is_crank := _, F_is_crank := fun_mk l_is_crank c_is_crank k_is_crank, g_is_crank := PySem.W.mg_of X G a_is_crank, a_is_engine := f_is_engine, d_is_engine := _, F_is_engine := fun_mk l_is_engine c_is_engine k_is_engine, g_is_engine := PySem.W.mg_of X G a_is_engine, a_check_engine := f_check_engine, d_check_engine := _, F_check_engine := fun_mk l_check_engine c_check_engine k_check_engine, g_check_engine := PySem.W.mg_of X G a_check_engine, a_check_order := f_check_order, d_check_order := _, F_check_order := fun_mk l_check_order c_check_order k_check_order, g_check_order := PySem.W.mg_of X G a_check_order, a_stir_by := f_stir_by, d_stir_by := _, F_stir_by := fun_mk l_stir_by c_stir_by k_stir_by, g_stir_by := PySem.W.mg_of X G a_stir_by, a_stir_parts := f_stir_parts, d_stir_parts := _, F_stir_parts := fun_mk l_stir_parts c_stir_parts k_stir_parts, g_stir_parts := PySem.W.mg_of X G a_stir_parts, a__law_spring := f__law_spring, d__law_spring := _, F__law_spring := fun_mk l__law_spring c__law_spring k__law_spring, g__law_spring := PySem.W.mg_of X G a__law_spring, a__law_pull := f__law_pull, d__law_pull := _, F__law_pull := fun_mk l__law_pull c__law_pull k__law_pull, g__law_pull := PySem.W.mg_of X G a__law_pull, a__law_from := f__law_from, d__law_from := _, F__law_from := fun_mk l__law_from c__law_from k__law_from, g__law_from := PySem.W.mg_of X G a__law_from, a__law_common := f__law_common, d__law_common := _, F__law_common := fun_mk l__law_common c__law_common k__law_common, g__law_common := PySem.W.mg_of X G a__law_common, a__law_frac := f__law_frac, d__law_frac := _, F__law_frac := fun_mk l__law_frac c__law_frac k__law_frac, g__law_frac := PySem.W.mg_of X G a__law_frac, a__law_plus := f__law_plus, d__law_plus := _, F__law_plus := fun_mk l__law_plus c__law_plus k__law_plus, g__law_plus := PySem.W.mg_of X G a__law_plus, a__law_by := f__law_by, d__law_by := _, F__law_by := fun_mk l__law_by c__law_by k__law_by, g__law_by := PySem.W.mg_of X G a__law_by, a__law_over := f__law_over, d__law_over := _, F__law_over := fun_mk l__law_over c__law_over k__law_over, g__law_over := PySem.W.mg_of X G a__law_over, a__law_cut := f__law_cut, d__law_cut := _, F__law_cut := fun_mk l__law_cut c__law_cut k__law_cut, g__law_cut := PySem.W.mg_of X G a__law_cut, a__law_add := f__law_add, d__law_add := _, F__law_add := fun_mk l__law_add c__law_add k__law_add, g__law_add := PySem.W.mg_of X G a__law_add, a__law_mul := f__law_mul, d__law_mul := _, F__law_mul := fun_mk l__law_mul c__law_mul k__law_mul, g__law_mul := PySem.W.mg_of X G a__law_mul, a__law_thin := f__law_thin, d__law_thin := _, F__law_thin := fun_mk l__law_thin c__law_thin k__law_thin, g__law_thin := PySem.W.mg_of X G a__law_thin, a__law_weight := f__law_weight, d__law_weight := _, F__law_weight := fun_mk l__law_weight c__law_weight k__law_weight, g__law_weight := PySem.W.mg_of X G a__law_weight, a__law_stay := f__law_stay, d__law_stay := _, F__law_stay := fun_mk l__law_stay c__law_stay k__law_stay, g__law_stay := PySem.W.mg_of X G a__law_stay, a__law_line := f__law_line, d__law_line := _, F__law_line := fun_mk l__law_line c__law_line k__law_line, g__law_line := PySem.W.mg_of X G a__law_line, a__law_run := f__law_run, d__law_run := _, F__law_run := fun_mk l__law_run c__law_run k__law_run, g__law_run := PySem.W.mg_of X G a__law_run, a__law_engine := f__law_engine, d__law_engine := _, F__law_engine := fun_mk l__law_engine c__law_engine k__law_engine, g__law_engine := PySem.W.mg_of X G a__law_engine, a__law_twelfths := f__law_twelfths, d__law_twelfths := _, F__law_twelfths := fun_mk l__law_twelfths c__law_twelfths k__law_twelfths, g__law_twelfths := PySem.W.mg_of X G a__law_twelfths, a__law_stir := f__law_stir, d__law_stir := _, F__law_stir := fun_mk l__law_stir c__law_stir k__law_stir, g__law_stir := PySem.W.mg_of X G a__law_stir, a__law_due := f__law_due, d__law_due := _, F__law_due := fun_mk l__law_due c__law_due k__law_due, g__law_due := PySem.W.mg_of X G a__law_due, a__law_right := f__law_right, d__law_right := _, F__law_right := fun_mk l__law_right c__law_right k__law_right, g__law_right := PySem.W.mg_of X G a__law_right, a_law := fa, d_law := _, F_law := fun_mk l_law c_law k_law, g_law := PySem.W.mg_of X G a_law, k_DOUBLED_COSINES := k_DOUBLED_COSINES, c_DOUBLED_COSINES := PySem.W.mg_of X G q_DOUBLED_COSINES, v_DOUBLED_COSINES := ct_rows (as := [e0_DOUBLED_COSINES, e1_DOUBLED_COSINES, e2_DOUBLED_COSINES, e3_DOUBLED_COSINES, e4_DOUBLED_COSINES, e5_DOUBLED_COSINES, e6_DOUBLED_COSINES, e7_DOUBLED_COSINES, e8_DOUBLED_COSINES, e9_DOUBLED_COSINES, e10_DOUBLED_COSINES, e11_DOUBLED_COSINES]) l_DOUBLED_COSINES (by simp) ⟨ct_pair l0_DOUBLED_COSINES, ct_pair l1_DOUBLED_COSINES, ct_pair l2_DOUBLED_COSINES, ct_pair l3_DOUBLED_COSINES, ct_pair l4_DOUBLED_COSINES, ct_pair l5_DOUBLED_COSINES, ct_pair l6_DOUBLED_COSINES, ct_pair l7_DOUBLED_COSINES, ct_pair l8_DOUBLED_COSINES, ct_pair l9_DOUBLED_COSINES, ct_pair l10_DOUBLED_COSINES, ct_pair l11_DOUBLED_COSINES, trivial⟩, t_MOST_CRANKS := t_MOST_CRANKS, c_MOST_CRANKS := PySem.W.mg_of X G q_MOST_CRANKS, t_MOST_DISCS := t_MOST_DISCS, c_MOST_DISCS := PySem.W.mg_of X G q_MOST_DISCS, t_QUARTER := t_QUARTER, c_QUARTER := PySem.W.mg_of X G q_QUARTER, t_TWELFTHS := t_TWELFTHS, c_TWELFTHS := PySem.W.mg_of X G q_TWELFTHS, n_abs := PySem.W.mg_none_of X G q_abs, n_all := PySem.W.mg_none_of X G q_all, n_bool := PySem.W.mg_none_of X G q_bool, n_enumerate := PySem.W.mg_none_of X G q_enumerate, l_gcd := PySem.W.mg_of X G q_gcd, n_int := PySem.W.mg_none_of X G q_int, n_isinstance := PySem.W.mg_none_of X G q_isinstance, l_lcm := PySem.W.mg_of X G q_lcm, n_len := PySem.W.mg_none_of X G q_len, n_list := PySem.W.mg_none_of X G q_list, n_max := PySem.W.mg_none_of X G q_max, n_range := PySem.W.mg_none_of X G q_range, n_repr := PySem.W.mg_none_of X G q_repr, n_tuple := PySem.W.mg_none_of X G q_tuple, n_zip := PySem.W.mg_none_of X G q_zip }, rfl, rfl⟩
  obtain ⟨T, e1, e2⟩ := T
  refine ⟨T.d_law, fun s v => by rw [e2]; exact .of_eq rfl, fun base _ _ => ?_⟩
  have := ok_law (P := l.prog) (w := w) (base := base) T
  rw [e1] at this
  exact this
theorem walk {l : PySem.W.OpenLaw} {q : Program} {loose : List Str} {XP : (Str → Option Value) → Heap → Prop} {YP : World → Heap → Prop} {d : DefRec} {K : Params → PySem.W.Frag} (hn : l.most = some 63) (hdf : d.params.defaults = [])
    (hY : ∀ (w : World) (h : Heap), YP w h → (K w.params).In h)
    (F : ∀ (w : World) (mg : Str → Option Value) (fa : Addr) (h : Heap), (K w.params).In h → h.Ns mainGlobals mg → mg d.name = some (.ref fa) →
      ∃ fd : FuncData, (∀ (s : Shared) (u : Value), BindsTo s fd ⟨[u], []⟩ [("_law_script", u)]) ∧ ∀ base : Heap, (K w.params).In base → base.Ns mainGlobals mg → FnG l.prog w (K w.params) mg base 10 fa fd ["_law_script"] (sp_law (K w.params))) :
    PySem.W.WalkO q loose XP YP l.row.toRowW d [] (fun f vs => PySem.call f vs) :=
  DL.walk_ofG (n := 63) (k := 10) (x := "_law_script") (sp := sp_law) hn (by decide) hdf ⟨rfl, by decide, by decide⟩ hY F (fun _ _ a ns hl hS => ⟨a, ns, rfl, hS, hl, fun _ => rfl⟩)
end Law
open PySem PySem.W PyProof.Rows
set_option maxRecDepth 100000 in
set_option maxHeartbeats 0 in
theorem PySem.Challenge.cw_shaftshakes_k89_whole_parts_of_a_stir_holds : PySem.Challenge.rw_shaftshakes_k89_whole_parts_of_a_stir.Holds := by
  w_on; o_law; k_head; (case hw => w_witness2)
  k_fill
  refine Law.walk (l := PySem.Challenge.rw_shaftshakes_k89_whole_parts_of_a_stir) rfl rfl (fun w h Y => PySem.W.kIn_of Y) ?F
  case F =>
    intro w mg fa h KX G hmg
    refine' Law.all_mk KX G hmg ?a_is_whole ?l_is_whole ?c_is_whole ?k_is_whole ?a_is_fraction ?l_is_fraction ?c_is_fraction ?k_is_fraction ?a_is_fraction_from_nought ?l_is_fraction_from_nought ?c_is_fraction_from_nought ?k_is_fraction_from_nought ?a_is_index ?l_is_index ?c_is_index ?k_is_index ?a_trimmed ?l_trimmed ?c_trimmed ?k_trimmed ?a_blend ?l_blend ?c_blend ?k_blend ?a_raised ?l_raised ?c_raised ?k_raised ?a_content ?l_content ?c_content ?k_content ?a_shrunk ?l_shrunk ?c_shrunk ?k_shrunk ?a_run_parts ?l_run_parts ?c_run_parts ?k_run_parts ?a_is_row_of_fractions ?l_is_row_of_fractions ?c_is_row_of_fractions ?k_is_row_of_fractions ?a_is_line ?l_is_line ?c_is_line ?k_is_line ?a_thinned_all ?l_thinned_all ?c_thinned_all ?k_thinned_all ?a_pushes_of ?l_pushes_of ?c_pushes_of ?k_pushes_of ?a_twelfths_of ?l_twelfths_of ?c_twelfths_of ?k_twelfths_of ?a_stir_of ?l_stir_of ?c_stir_of ?k_stir_of ?a_is_crank ?l_is_crank ?c_is_crank ?k_is_crank ?a_is_engine ?l_is_engine ?c_is_engine ?k_is_engine ?a_check_engine ?l_check_engine ?c_check_engine ?k_check_engine ?a_check_order ?l_check_order ?c_check_order ?k_check_order ?a_stir_by ?l_stir_by ?c_stir_by ?k_stir_by ?a_stir_parts ?l_stir_parts ?c_stir_parts ?k_stir_parts ?a__law_spring ?l__law_spring ?c__law_spring ?k__law_spring ?a__law_pull ?l__law_pull ?c__law_pull ?k__law_pull ?a__law_from ?l__law_from ?c__law_from ?k__law_from ?a__law_common ?l__law_common ?c__law_common ?k__law_common ?a__law_frac ?l__law_frac ?c__law_frac ?k__law_frac ?a__law_plus ?l__law_plus ?c__law_plus ?k__law_plus ?a__law_by ?l__law_by ?c__law_by ?k__law_by ?a__law_over ?l__law_over ?c__law_over ?k__law_over ?a__law_cut ?l__law_cut ?c__law_cut ?k__law_cut ?a__law_add ?l__law_add ?c__law_add ?k__law_add ?a__law_mul ?l__law_mul ?c__law_mul ?k__law_mul ?a__law_thin ?l__law_thin ?c__law_thin ?k__law_thin ?a__law_weight ?l__law_weight ?c__law_weight ?k__law_weight ?a__law_stay ?l__law_stay ?c__law_stay ?k__law_stay ?a__law_line ?l__law_line ?c__law_line ?k__law_line ?a__law_run ?l__law_run ?c__law_run ?k__law_run ?a__law_engine ?l__law_engine ?c__law_engine ?k__law_engine ?a__law_twelfths ?l__law_twelfths ?c__law_twelfths ?k__law_twelfths ?a__law_stir ?l__law_stir ?c__law_stir ?k__law_stir ?a__law_due ?l__law_due ?c__law_due ?k__law_due ?a__law_right ?l__law_right ?c__law_right ?k__law_right ?a_law ?l_law ?c_law ?k_law ?q_DOUBLED_COSINES ?l_DOUBLED_COSINES ?l0_DOUBLED_COSINES ?l1_DOUBLED_COSINES ?l2_DOUBLED_COSINES ?l3_DOUBLED_COSINES ?l4_DOUBLED_COSINES ?l5_DOUBLED_COSINES ?l6_DOUBLED_COSINES ?l7_DOUBLED_COSINES ?l8_DOUBLED_COSINES ?l9_DOUBLED_COSINES ?l10_DOUBLED_COSINES ?l11_DOUBLED_COSINES ?q_MOST_CRANKS ?q_MOST_DISCS ?q_QUARTER ?q_TWELFTHS ?q_abs ?q_all ?q_bool ?q_enumerate ?q_gcd ?q_int ?q_isinstance ?q_lcm ?q_len ?q_list ?q_max ?q_range ?q_repr ?q_tuple ?q_zip
    (case a_is_whole => k_is)
    (case l_is_whole => k_is)
    (case c_is_whole => k_is)
    (case k_is_whole => k_is)
    (case a_is_fraction => k_is)
    (case l_is_fraction => k_is)
    (case c_is_fraction => k_is)
    (case k_is_fraction => k_is)
    (case a_is_fraction_from_nought => k_is)
    (case l_is_fraction_from_nought => k_is)
    (case c_is_fraction_from_nought => k_is)
    (case k_is_fraction_from_nought => k_is)
    (case a_is_index => k_is)
    (case l_is_index => k_is)
    (case c_is_index => k_is)
    (case k_is_index => k_is)
    (case a_trimmed => k_is)
    (case l_trimmed => k_is)
    (case c_trimmed => k_is)
    (case k_trimmed => k_is)
    (case a_blend => k_is)
    (case l_blend => k_is)
    (case c_blend => k_is)
    (case k_blend => k_is)
    (case a_raised => k_is)
    (case l_raised => k_is)
    (case c_raised => k_is)
    (case k_raised => k_is)
    (case a_content => k_is)
    (case l_content => k_is)
    (case c_content => k_is)
    (case k_content => k_is)
    (case a_shrunk => k_is)
    (case l_shrunk => k_is)
    (case c_shrunk => k_is)
    (case k_shrunk => k_is)
    (case a_run_parts => k_is)
    (case l_run_parts => k_is)
    (case c_run_parts => k_is)
    (case k_run_parts => k_is)
    (case a_is_row_of_fractions => k_is)
    (case l_is_row_of_fractions => k_is)
    (case c_is_row_of_fractions => k_is)
    (case k_is_row_of_fractions => k_is)
    (case a_is_line => k_is)
    (case l_is_line => k_is)
    (case c_is_line => k_is)
    (case k_is_line => k_is)
    (case a_thinned_all => k_is)
    (case l_thinned_all => k_is)
    (case c_thinned_all => k_is)
    (case k_thinned_all => k_is)
    (case a_pushes_of => k_is)
    (case l_pushes_of => k_is)
    (case c_pushes_of => k_is)
    (case k_pushes_of => k_is)
    (case a_twelfths_of => k_is)
    (case l_twelfths_of => k_is)
    (case c_twelfths_of => k_is)
    (case k_twelfths_of => k_is)
    (case a_stir_of => k_is)
    (case l_stir_of => k_is)
    (case c_stir_of => k_is)
    (case k_stir_of => k_is)
    (case a_is_crank => k_is)
    (case l_is_crank => k_is)
    (case c_is_crank => k_is)
    (case k_is_crank => k_is)
    (case a_is_engine => k_is)
    (case l_is_engine => k_is)
    (case c_is_engine => k_is)
    (case k_is_engine => k_is)
    (case a_check_engine => k_is)
    (case l_check_engine => k_is)
    (case c_check_engine => k_is)
    (case k_check_engine => k_is)
    (case a_check_order => k_is)
    (case l_check_order => k_is)
    (case c_check_order => k_is)
    (case k_check_order => k_is)
    (case a_stir_by => k_is)
    (case l_stir_by => k_is)
    (case c_stir_by => k_is)
    (case k_stir_by => k_is)
    (case a_stir_parts => k_is)
    (case l_stir_parts => k_is)
    (case c_stir_parts => k_is)
    (case k_stir_parts => k_is)
    (case a__law_spring => k_is)
    (case l__law_spring => k_is)
    (case c__law_spring => k_is)
    (case k__law_spring => k_is)
    (case a__law_pull => k_is)
    (case l__law_pull => k_is)
    (case c__law_pull => k_is)
    (case k__law_pull => k_is)
    (case a__law_from => k_is)
    (case l__law_from => k_is)
    (case c__law_from => k_is)
    (case k__law_from => k_is)
    (case a__law_common => k_is)
    (case l__law_common => k_is)
    (case c__law_common => k_is)
    (case k__law_common => k_is)
    (case a__law_frac => k_is)
    (case l__law_frac => k_is)
    (case c__law_frac => k_is)
    (case k__law_frac => k_is)
    (case a__law_plus => k_is)
    (case l__law_plus => k_is)
    (case c__law_plus => k_is)
    (case k__law_plus => k_is)
    (case a__law_by => k_is)
    (case l__law_by => k_is)
    (case c__law_by => k_is)
    (case k__law_by => k_is)
    (case a__law_over => k_is)
    (case l__law_over => k_is)
    (case c__law_over => k_is)
    (case k__law_over => k_is)
    (case a__law_cut => k_is)
    (case l__law_cut => k_is)
    (case c__law_cut => k_is)
    (case k__law_cut => k_is)
    (case a__law_add => k_is)
    (case l__law_add => k_is)
    (case c__law_add => k_is)
    (case k__law_add => k_is)
    (case a__law_mul => k_is)
    (case l__law_mul => k_is)
    (case c__law_mul => k_is)
    (case k__law_mul => k_is)
    (case a__law_thin => k_is)
    (case l__law_thin => k_is)
    (case c__law_thin => k_is)
    (case k__law_thin => k_is)
    (case a__law_weight => k_is)
    (case l__law_weight => k_is)
    (case c__law_weight => k_is)
    (case k__law_weight => k_is)
    (case a__law_stay => k_is)
    (case l__law_stay => k_is)
    (case c__law_stay => k_is)
    (case k__law_stay => k_is)
    (case a__law_line => k_is)
    (case l__law_line => k_is)
    (case c__law_line => k_is)
    (case k__law_line => k_is)
    (case a__law_run => k_is)
    (case l__law_run => k_is)
    (case c__law_run => k_is)
    (case k__law_run => k_is)
    (case a__law_engine => k_is)
    (case l__law_engine => k_is)
    (case c__law_engine => k_is)
    (case k__law_engine => k_is)
    (case a__law_twelfths => k_is)
    (case l__law_twelfths => k_is)
    (case c__law_twelfths => k_is)
    (case k__law_twelfths => k_is)
    (case a__law_stir => k_is)
    (case l__law_stir => k_is)
    (case c__law_stir => k_is)
    (case k__law_stir => k_is)
    (case a__law_due => k_is)
    (case l__law_due => k_is)
    (case c__law_due => k_is)
    (case k__law_due => k_is)
    (case a__law_right => k_is)
    (case l__law_right => k_is)
    (case c__law_right => k_is)
    (case k__law_right => k_is)
    (case a_law => k_is)
    (case l_law => k_is)
    (case c_law => k_is)
    (case k_law => k_is)
    (case q_DOUBLED_COSINES => k_is)
    (case l_DOUBLED_COSINES => k_is)
    (case l0_DOUBLED_COSINES => k_is)
    (case l1_DOUBLED_COSINES => k_is)
    (case l2_DOUBLED_COSINES => k_is)
    (case l3_DOUBLED_COSINES => k_is)
    (case l4_DOUBLED_COSINES => k_is)
    (case l5_DOUBLED_COSINES => k_is)
    (case l6_DOUBLED_COSINES => k_is)
    (case l7_DOUBLED_COSINES => k_is)
    (case l8_DOUBLED_COSINES => k_is)
    (case l9_DOUBLED_COSINES => k_is)
    (case l10_DOUBLED_COSINES => k_is)
    (case l11_DOUBLED_COSINES => k_is)
    (case q_MOST_CRANKS => k_is)
    (case q_MOST_DISCS => k_is)
    (case q_QUARTER => k_is)
    (case q_TWELFTHS => k_is)
    (case q_abs => k_is)
    (case q_all => k_is)
    (case q_bool => k_is)
    (case q_enumerate => k_is)
    (case q_gcd => k_is)
    (case q_int => k_is)
    (case q_isinstance => k_is)
    (case q_lcm => k_is)
    (case q_len => k_is)
    (case q_list => k_is)
    (case q_max => k_is)
    (case q_range => k_is)
    (case q_repr => k_is)
    (case q_tuple => k_is)
    (case q_zip => k_is)
