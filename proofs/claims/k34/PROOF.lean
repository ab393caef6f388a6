import PyProof.Rows.All
import Wide.All
import OpenK.AllK
import Wide.FinOn
import HandS.ForMost
import HandS.IsInst
import HandS.Style
import HandS.TupAny
import HandS.TupMul
import HandS.Gcd
import HandS.Wide
import HandS.WideBits
import HandS.Conv
import HandS.Exc
import HandS.Zip0
import KE.GoesMore
import PyProof.Draws
import PyProof.EnumMake
import PyProof.ReprRoads
import PyProof.ReprLen
import PyProof.Rows.RegStrFacts
import HandS.ForDict
import HandS.Rev
import HandS.SetFor
import HandS.RaiseMore
import HandS.TryOnly
import KE.KMathGC
import HandS.Deep
import HandS.Zip
import KE.DataAny
import HandS.Flow
import HandS.Comp
import PySem.Challenge.RW_shaftshakes_k34_whole_boxes_and_their_li
set_option Elab.async false
set_option linter.all false
set_option maxRecDepth 100000
set_option maxHeartbeats 4000000
/-! A layer over HandS: values are told as data, one mutable list (the well) and local lists apart. -/
namespace DL
open PySem PySem.Spec PyProof.Rows L2

/-! ### data -/
mutual
inductive Dn (K : PySem.W.Frag) (H : Hp) : V → PyData → Prop
  | non : Dn K H .non .none
  | bl (b : Bool) : Dn K H (.bl b) (.bool b)
  | int (i : Int) : Dn K H (.int i) (.int i)
  | str (x : Str) : Dn K H (.str x) (.str x)
  | lst {a : Addr} {xs : List V} {ds : List PyData} : H a = some (.lst xs) → DnA K H xs ds → Dn K H (.ref a) (.list ds)
  | tup {a : Addr} {xs : List V} {ds : List PyData} : SqT K H a xs → DnA K H xs ds → Dn K H (.ref a) (.tuple ds)
  | emp {a : Addr} {kv : List (Key × V)} {ds : List (PyData × PyData)} : H a = some (.dK kv) → (kv = [] ↔ ds = []) → Dn K H (.ref a) (.dict ds)
inductive DnA (K : PySem.W.Frag) (H : Hp) : List V → List PyData → Prop
  | nil : DnA K H [] []
  | cons {v : V} {vs : List V} {d : PyData} {ds : List PyData} : Dn K H v d → DnA K H vs ds → DnA K H (v :: vs) (d :: ds)
end

theorem Same.sqt {K : PySem.W.Frag} {H H' : Hp} {a : Addr} {xs : List V} (e : Same H H') (h : SqT K H a xs) : SqT K H' a xs := by
  rcases h with (h | ⟨o, h⟩) | h
  · exact .inl (.inl (e _ _ h))
  · exact .inl (.inr ⟨o, e _ _ h⟩)
  · exact .inr h

section
variable {K : PySem.W.Frag} {H H' : Hp}
mutual
theorem Dn.mono (e : Same H H') : ∀ {v : V} {d : PyData}, Dn K H v d → Dn K H' v d
  | _, _, .non => .non
  | _, _, .bl b => .bl b
  | _, _, .int i => .int i
  | _, _, .str x => .str x
  | _, _, .lst h1 h2 => .lst (e _ _ h1) (DnA.mono e h2)
  | _, _, .tup h1 h2 => .tup (Same.sqt e h1) (DnA.mono e h2)
  | _, _, .emp h q => .emp (e _ _ h) q
theorem DnA.mono (e : Same H H') : ∀ {vs : List V} {ds : List PyData}, DnA K H vs ds → DnA K H' vs ds
  | _, _, .nil => .nil
  | _, _, .cons h1 h2 => .cons (Dn.mono e h1) (DnA.mono e h2)
end
theorem DnA.length : ∀ {vs : List V} {ds : List PyData}, DnA K H vs ds → vs.length = ds.length
  | _, _, .nil => rfl
  | _, _, .cons _ h => by
    show _ + 1 = _ + 1
    rw [DnA.length h]
theorem DnA.get : ∀ {vs : List V} {ds : List PyData} {i : Nat} {d : PyData}, DnA K H vs ds → ds[i]? = some d → ∃ v, vs[i]? = some v ∧ Dn K H v d
  | _, _, i, _, .nil, e => by simp at e
  | _, _, 0, _, .cons h _, e => by
    simp at e
    subst e
    exact ⟨_, rfl, h⟩
  | _, _, i + 1, _, .cons _ h, e => by
    obtain ⟨v, q, r⟩ := DnA.get (i := i) h (by simpa using e)
    exact ⟨v, by simpa using q, r⟩
theorem DnA.getV : ∀ {vs : List V} {ds : List PyData} {i : Nat} {v : V}, DnA K H vs ds → vs[i]? = some v → ∃ d, ds[i]? = some d ∧ Dn K H v d
  | _, _, i, _, .nil, e => by simp at e
  | _, _, 0, _, .cons h _, e => by
    simp at e
    subst e
    exact ⟨_, rfl, h⟩
  | _, _, i + 1, _, .cons _ h, e => by
    obtain ⟨v, q, r⟩ := DnA.getV (i := i) h (by simpa using e)
    exact ⟨v, by simpa using q, r⟩
theorem DnA.append : ∀ {vs ws : List V} {ds es : List PyData}, DnA K H vs ds → DnA K H ws es → DnA K H (vs ++ ws) (ds ++ es)
  | _, _, _, _, .nil, h => h
  | _, _, _, _, .cons h1 h2, h => .cons h1 (DnA.append h2 h)
theorem DnA.take : ∀ {vs : List V} {ds : List PyData} (n : Nat), DnA K H vs ds → DnA K H (vs.take n) (ds.take n)
  | _, _, 0, _ => .nil
  | _, _, _ + 1, .nil => .nil
  | _, _, n + 1, .cons h1 h2 => .cons h1 (DnA.take n h2)
theorem DnA.drop : ∀ {vs : List V} {ds : List PyData} (n : Nat), DnA K H vs ds → DnA K H (vs.drop n) (ds.drop n)
  | _, _, 0, h => h
  | _, _, _ + 1, .nil => .nil
  | _, _, n + 1, .cons h1 h2 => DnA.drop n h2
theorem DnA.set : ∀ {vs : List V} {ds : List PyData} (i : Nat) {v : V} {d : PyData}, DnA K H vs ds → Dn K H v d → DnA K H (vs.set i v) (ds.set i d)
  | _, _, _, _, _, .nil, _ => .nil
  | _, _, 0, _, _, .cons _ h2, h => .cons h h2
  | _, _, i + 1, _, _, .cons h1 h2, h => .cons h1 (DnA.set i h2 h)
theorem DnA.bools : ∀ {vs : List V} {ns : List Bool}, DnA K H vs (ns.map PyData.bool) → vs = ns.map V.bl
  | _, [], .nil => rfl
  | _, n :: ns, .cons h1 h2 => by
    cases h1
    rw [DnA.bools h2]
    rfl
end

/-! ### what is hidden -/
def hid (M : List Addr) (H : Hp) : Hp := fun a => if a ∈ M then none else H a
theorem hid_out {M : List Addr} {H : Hp} {a : Addr} (h : a ∉ M) : hid M H a = H a := by unfold hid; rw [if_neg h]
theorem hid_some {M : List Addr} {H : Hp} {a : Addr} {o : HO} (h : hid M H a = some o) : a ∉ M ∧ H a = some o := by
  unfold hid at h
  by_cases q : a ∈ M
  · rw [if_pos q] at h; cases h
  · rw [if_neg q] at h; exact ⟨q, h⟩
theorem hid_sub (M : List Addr) (H : Hp) : Same (hid M H) H := fun a o h => (hid_some h).2
theorem hid_less {M N : List Addr} (H : Hp) (h : ∀ a ∈ N, a ∈ M) : Same (hid M H) (hid N H) := fun a o e => by
  obtain ⟨q, e⟩ := hid_some e
  rw [hid_out (fun z => q (h a z))]
  exact e
theorem hid_same {M : List Addr} {H H' : Hp} (h : ∀ a o, a ∉ M → H a = some o → H' a = some o) : Same (hid M H) (hid M H') := fun a o e => by
  obtain ⟨q, e⟩ := hid_some e
  rw [hid_out q]
  exact h a o q e

/-! ### slots -/
inductive Sl where
  | un
  | d (x : PyData)
  | own (l : Addr) (xs : List PyData)
  | well (w : Addr)
  | raw (v : V)

def WellAt (H : Hp) (w : Addr) : Prop := ∃ n b c : Int, H w = some (.lst [.int n, .int b, .int c]) ∧ 0 ≤ n ∧ 0 ≤ b ∧ b < 1099511627776

def SlotOk (K : PySem.W.Frag) (M : List Addr) (H : Hp) (ov : Option V) : Sl → Prop
  | .un => True
  | .d x => ∃ v, ov = some v ∧ Dn K (hid M H) v x
  | .own l xs => ov = some (.ref l) ∧ ∃ vs, H l = some (.lst vs) ∧ DnA K (hid M H) vs xs
  | .well w => ov = some (.ref w)
  | .raw v => ov = some v

structure Bs where
  M : List Addr
  Ws : List Addr
  H : Hp

structure Env (K : PySem.W.Frag) (B : Bs) (G : List Hp) (L : List Addr) (H : Hp) (σ : L2.St) (Γ : List Sl) : Prop where
  fr : ∀ a o, a ∉ B.Ws → B.H a = some o → H a = some o
  ws : ∀ w ∈ B.Ws, WellAt H w
  wm : ∀ w ∈ B.Ws, w ∈ B.M
  lm : ∀ m ∈ B.M, ∃ o, B.H m = some o
  lo : ∀ l ∈ L, B.H l = none ∧ ∃ xs, H l = some (.lst xs)
  len : σ.length = Γ.length
  sl : ∀ (i : Nat) (s : Sl), Γ[i]? = some s → SlotOk K (L ++ B.M) H (σ[i]?.join) s
  gh : ∀ g ∈ G, Same g (hid (L ++ B.M) H)
  ow : ∀ (i : Nat) (l : Addr) (xs : List PyData), Γ[i]? = some (.own l xs) → l ∈ L
  ou : ∀ (i j : Nat) (l : Addr) (xs ys : List PyData), Γ[i]? = some (.own l xs) → Γ[j]? = some (.own l ys) → i = j
  we : ∀ (i : Nat) (w : Addr), Γ[i]? = some (.well w) → w ∈ B.Ws

section
variable {K : PySem.W.Frag} {B : Bs} {G : List Hp} {L : List Addr} {H H' : Hp} {σ : L2.St} {Γ : List Sl}

theorem WellAt.ne {w a : Addr} (h : WellAt H w) (n : H a = none) : a ≠ w := by
  rintro rfl
  obtain ⟨_, _, _, e, _⟩ := h
  rw [n] at e; cases e
theorem Env.alive (E : Env K B G L H σ Γ) : ∀ a ∈ L ++ B.M, ∃ o, H a = some o := fun a ha => by
  rcases List.mem_append.mp ha with h | h
  · obtain ⟨_, xs, e⟩ := E.lo a h
    exact ⟨_, e⟩
  · by_cases w : a ∈ B.Ws
    · obtain ⟨n, b, c, e, _⟩ := E.ws a w
      exact ⟨_, e⟩
    · obtain ⟨o, e⟩ := E.lm a h
      exact ⟨o, E.fr a o w e⟩
theorem Env.newM (E : Env K B G L H σ Γ) {p : Addr} (h : H p = none) : p ∉ L ++ B.M := fun q => by
  obtain ⟨o, e⟩ := E.alive p q
  rw [h] at e; cases e
theorem Env.lW (E : Env K B G L H σ Γ) {l : Addr} (h : l ∈ L) : l ∉ B.Ws := fun w => by
  obtain ⟨o, e⟩ := E.lm l (E.wm l w)
  rw [(E.lo l h).1] at e; cases e
/-- all but the wells is kept -/
theorem Env.step (E : Env K B G L H σ Γ) (h1 : ∀ a o, a ∉ B.Ws → H a = some o → H' a = some o) (h2 : ∀ w ∈ B.Ws, WellAt H' w) :
    Env K B G L H' σ Γ ∧ Same (hid (L ++ B.M) H) (hid (L ++ B.M) H') := by
  have hs : Same (hid (L ++ B.M) H) (hid (L ++ B.M) H') := hid_same fun a o q e => h1 a o (fun w => q (List.mem_append_right _ (E.wm a w))) e
  refine ⟨⟨fun a o w e => h1 a o w (E.fr a o w e), h2, E.wm, E.lm, fun l hl => ?_, E.len, fun i s hi => ?_, fun p hp => (E.gh p hp).trans hs, E.ow, E.ou, E.we⟩, hs⟩
  · obtain ⟨e, xs, q⟩ := E.lo l hl
    exact ⟨e, xs, h1 l _ (E.lW hl) q⟩
  · have q := E.sl i s hi
    cases s with
    | un => trivial
    | d x =>
      obtain ⟨v, e, dn⟩ := q
      exact ⟨v, e, dn.mono hs⟩
    | own l xs =>
      obtain ⟨e, vs, hl, dn⟩ := q
      exact ⟨e, vs, h1 l _ (E.lW (E.ow i l xs hi)) hl, dn.mono hs⟩
    | well w => exact q
    | raw v => exact q
theorem Env.ext (E : Env K B G L H σ Γ) (h : Same H H') : Env K B G L H' σ Γ ∧ Same (hid (L ++ B.M) H) (hid (L ++ B.M) H') :=
  E.step (fun a o _ e => h a o e) fun w hw => by
    obtain ⟨n, b, c, e, q⟩ := E.ws w hw
    exact ⟨n, b, c, h _ _ e, q⟩
theorem same_upd {H : Hp} {p : Addr} {o : HO} (h : H p = none) : Same H (upd H p o) := fun b x e => by
  rw [upd_ne (ne_of_none e h)]
  exact e
theorem hid_new {M : List Addr} {H : Hp} {p : Addr} {o : HO} (h : p ∉ M) : hid M (upd H p o) p = some o := by
  rw [hid_out h]
  exact upd_same
theorem Env.get (E : Env K B G L H σ Γ) {i : Nat} {x : PyData} (h : Γ[i]? = some (.d x)) : ∃ v, σ[i]? = some (some v) ∧ Dn K (hid (L ++ B.M) H) v x := by
  obtain ⟨v, e, dn⟩ := E.sl i _ h
  refine ⟨v, ?_, dn⟩
  cases q : σ[i]? with
  | none => rw [q] at e; cases e
  | some ov =>
    rw [q] at e
    rw [show ov = some v from e]
theorem Env.getW (E : Env K B G L H σ Γ) {i : Nat} {w : Addr} (h : Γ[i]? = some (.well w)) : σ[i]? = some (some (.ref w)) := by
  have e := E.sl i _ h
  cases q : σ[i]? with
  | none => rw [q] at e; cases e
  | some ov =>
    rw [q] at e
    rw [show ov = some (.ref w) from e]
theorem Env.getO (E : Env K B G L H σ Γ) {i : Nat} {l : Addr} {xs : List PyData} (h : Γ[i]? = some (.own l xs)) : σ[i]? = some (some (.ref l)) ∧ ∃ vs, H l = some (.lst vs) ∧ DnA K (hid (L ++ B.M) H) vs xs := by
  have e := E.sl i _ h
  obtain ⟨e, r⟩ := e
  refine ⟨?_, r⟩
  cases q : σ[i]? with
  | none => rw [q] at e; cases e
  | some ov =>
    rw [q] at e
    rw [show ov = some (.ref l) from e]
/-- a slot gets data -/
theorem Env.put (E : Env K B G L H σ Γ) (i : Nat) {v : V} {x : PyData} (h : Dn K (hid (L ++ B.M) H) v x) : Env K B G L H (σ.set i (some v)) (Γ.set i (.d x)) := by
  have g : ∀ (j : Nat) (s : Sl), (Γ.set i (.d x))[j]? = some s → (j = i ∧ s = .d x ∧ j < Γ.length) ∨ (j ≠ i ∧ Γ[j]? = some s) := fun j s hj => by
    by_cases e : j = i
    · subst e
      refine .inl ⟨rfl, ?_⟩
      by_cases hl : j < Γ.length
      · rw [List.getElem?_set_self hl] at hj
        exact ⟨(Option.some.inj hj).symm, hl⟩
      · rw [List.getElem?_eq_none (by rw [List.length_set]; omega)] at hj
        cases hj
    · rw [List.getElem?_set_ne (Ne.symm e)] at hj
      exact .inr ⟨e, hj⟩
  refine ⟨E.fr, E.ws, E.wm, E.lm, E.lo, by rw [List.length_set, List.length_set]; exact E.len, fun j s hj => ?_, E.gh, fun j l xs hj => ?_, fun j k l xs ys hj hk => ?_, fun j w hj => ?_⟩
  · rcases g j s hj with ⟨rfl, rfl, hl⟩ | ⟨e, hj⟩
    · refine ⟨v, ?_, h⟩
      rw [List.getElem?_set_self (by rw [E.len]; exact hl)]
      rfl
    · rw [List.getElem?_set_ne (Ne.symm e)]
      exact E.sl j s hj
  · rcases g j _ hj with ⟨_, e, _⟩ | ⟨_, hj⟩
    · cases e
    · exact E.ow j l xs hj
  · rcases g j _ hj with ⟨_, e, _⟩ | ⟨_, hj⟩
    · cases e
    · rcases g k _ hk with ⟨_, e, _⟩ | ⟨_, hk⟩
      · cases e
      · exact E.ou j k l xs ys hj hk
  · rcases g j _ hj with ⟨_, e, _⟩ | ⟨_, hj⟩
    · cases e
    · exact E.we j w hj
end

/-! ### what evaluates to what -/
section
variable (K : PySem.W.Frag) (B : Bs) (G : List Hp) (L : List Addr) (Γ : List Sl)
/-- the step that an evaluation may take -/
structure Go (H H' : Hp) (σ : L2.St) : Prop where
  env : Env K B G L H' σ Γ
  sm : Same (hid (L ++ B.M) H) (hid (L ++ B.M) H')
  kp : ∀ l ∈ L, ∀ o, H l = some o → H' l = some o
  rl : ∀ a o, a ∉ B.Ws → H a = some o → H' a = some o
def EvP (te : TE) (k : PyData → Prop) : Prop := ∀ (σ : L2.St) (H : Hp) (Q : VK), Env K B G L H σ Γ →
  (∀ v d H', Go K B G L Γ H H' σ → Dn K (hid (L ++ B.M) H') v d → k d → Q v H') → te σ H Q
/-- a new list -/
def EvN (te : TE) (k : List PyData → Prop) : Prop := ∀ (σ : L2.St) (H : Hp) (Q : VK), Env K B G L H σ Γ →
  (∀ p vs ds H', Go K B G L Γ H H' σ → H p = none → H' p = some (.lst vs) → DnA K (hid (p :: (L ++ B.M)) H') vs ds → k ds → Q (.ref p) H') → te σ H Q
def EvA (ta : TA) (k : List PyData → Prop) : Prop := ∀ (σ : L2.St) (H : Hp) (Q : List V → Hp → Prop), Env K B G L H σ Γ →
  (∀ vs ds H', Go K B G L Γ H H' σ → DnA K (hid (L ++ B.M) H') vs ds → k ds → Q vs H') → ta σ H Q
def EvT (tt : TT) (k : Bool → Prop) : Prop := ∀ (σ : L2.St) (H : Hp) (Q : Bool → Hp → Prop), Env K B G L H σ Γ →
  (∀ b H', Go K B G L Γ H H' σ → k b → Q b H') → tt σ H Q
/-- an operation on values -/
def ROk (r : R2) (x y : PyData) (k : PyData → Prop) : Prop := ∀ (σ : L2.St) (H : Hp) (Q : VK) (v u : V), Env K B G L H σ Γ → Dn K (hid (L ++ B.M) H) v x → Dn K (hid (L ++ B.M) H) u y →
  (∀ z d H', Go K B G L Γ H H' σ → Dn K (hid (L ++ B.M) H') z d → k d → Q z H') → r v u H Q
def UOk (r : V → Hp → VK → Prop) (x : PyData) (k : PyData → Prop) : Prop := ∀ (σ : L2.St) (H : Hp) (Q : VK) (v : V), Env K B G L H σ Γ → Dn K (hid (L ++ B.M) H) v x →
  (∀ z d H', Go K B G L Γ H H' σ → Dn K (hid (L ++ B.M) H') z d → k d → Q z H') → r v H Q
def COk (r : List V → Hp → VK → Prop) (ds : List PyData) (k : PyData → Prop) : Prop := ∀ (σ : L2.St) (H : Hp) (Q : VK) (vs : List V), Env K B G L H σ Γ → DnA K (hid (L ++ B.M) H) vs ds →
  (∀ z d H', Go K B G L Γ H H' σ → Dn K (hid (L ++ B.M) H') z d → k d → Q z H') → r vs H Q
end

section
variable {K : PySem.W.Frag} {B : Bs} {G : List Hp} {L : List Addr} {Γ : List Sl} {H H' H2 : Hp} {σ : L2.St}
theorem Go.refl (E : Env K B G L H σ Γ) : Go K B G L Γ H H σ := ⟨E, Same.refl _, fun _ _ _ e => e, fun _ _ _ e => e⟩
theorem Go.trans (a : Go K B G L Γ H H' σ) (b : Go K B G L Γ H' H2 σ) : Go K B G L Γ H H2 σ := ⟨b.env, a.sm.trans b.sm, fun l hl o e => b.kp l hl o (a.kp l hl o e), fun c o w e => b.rl c o w (a.rl c o w e)⟩
/-- all but the wells is kept -/
theorem Go.step (E : Env K B G L H σ Γ) (h1 : ∀ a o, a ∉ B.Ws → H a = some o → H' a = some o) (h2 : ∀ w ∈ B.Ws, WellAt H' w) : Go K B G L Γ H H' σ := by
  obtain ⟨a, b⟩ := E.step h1 h2
  exact ⟨a, b, fun l hl o e => h1 l o (E.lW hl) e, h1⟩
theorem Go.new (E : Env K B G L H σ Γ) {p : Addr} {o : HO} (h : H p = none) : Go K B G L Γ H (upd H p o) σ := by
  obtain ⟨a, b⟩ := E.ext (same_upd (o := o) h)
  exact ⟨a, b, fun l hl o e => same_upd h l o e, fun c o _ e => same_upd h c o e⟩

variable {te ta tb tc : TE} {tt tu : TT} {tr : TA} {k : PyData → Prop} {x y : PyData}
theorem EvP.mono {k' : PyData → Prop} (h : EvP K B G L Γ te k) (f : ∀ d, k d → k' d) : EvP K B G L Γ te k' := fun σ H Q E q => h σ H Q E fun v d H' g dn hk => q v d H' g dn (f d hk)
theorem ev_var {i : Nat} (h : Γ[i]? = some (.d x)) (hk : k x) : EvP K B G L Γ (tVar i) k := fun σ H Q E q => by
  obtain ⟨v, e, dn⟩ := E.get h
  exact ⟨v, e, q v x H (Go.refl E) dn hk⟩
theorem ev_int {i : Int} (hk : k (.int i)) : EvP K B G L Γ (tC (.int i)) k := fun σ H Q E q => q _ _ H (Go.refl E) (.int i) hk
theorem ev_bl {b : Bool} (hk : k (.bool b)) : EvP K B G L Γ (tC (.bl b)) k := fun σ H Q E q => q _ _ H (Go.refl E) (.bl b) hk
theorem ev_non (hk : k .none) : EvP K B G L Γ (tC .non) k := fun σ H Q E q => q _ _ H (Go.refl E) .non hk
theorem ev_str {s : Str} (hk : k (.str s)) : EvP K B G L Γ (tC (.str s)) k := fun σ H Q E q => q _ _ H (Go.refl E) (.str s) hk
theorem ev_op {r : R2} (h : EvP K B G L Γ ta fun x => EvP K B G L Γ tb fun y => ROk K B G L Γ r x y k) : EvP K B G L Γ (tOp r ta tb) k := fun σ H Q E q =>
  h σ H _ E fun v x H1 g1 dn1 h1 => h1 σ H1 _ g1.env fun u y H2 g2 dn2 h2 => h2 σ H2 Q v u g2.env (dn1.mono g2.sm) dn2 fun z d H3 g3 dn3 hk => q z d H3 ((g1.trans g2).trans g3) dn3 hk
theorem ev_un {r : V → Hp → VK → Prop} (h : EvP K B G L Γ ta fun x => UOk K B G L Γ r x k) : EvP K B G L Γ (tUn r ta) k := fun σ H Q E q =>
  h σ H _ E fun v x H1 g1 dn1 h1 => h1 σ H1 Q v g1.env dn1 fun z d H3 g3 dn3 hk => q z d H3 (g1.trans g3) dn3 hk
theorem ev_cb {r : List V → Hp → VK → Prop} (h : EvA K B G L Γ tr fun ds => COk K B G L Γ r ds k) : EvP K B G L Γ (tCB r tr) k := fun σ H Q E q =>
  h σ H _ E fun vs ds H1 g1 dn1 h1 => h1 σ H1 Q vs g1.env dn1 fun z d H3 g3 dn3 hk => q z d H3 (g1.trans g3) dn3 hk
theorem ev_if (h : EvT K B G L Γ tt fun b => (b = true → EvP K B G L Γ ta k) ∧ (b = false → EvP K B G L Γ tb k)) : EvP K B G L Γ (tIf tt ta tb) k := fun σ H Q E q =>
  h σ H _ E fun b H1 g1 ⟨h1, h2⟩ => by
    cases b with
    | true => exact iteT (h1 rfl σ H1 Q g1.env fun v d H3 g3 dn hk => q v d H3 (g1.trans g3) dn hk)
    | false => exact iteF (h2 rfl σ H1 Q g1.env fun v d H3 g3 dn hk => q v d H3 (g1.trans g3) dn hk)
theorem dn_bool {v : V} {b : Bool} (h : Dn K H v (.bool b)) : v = .bl b := by cases h; rfl
theorem dn_int {v : V} {i : Int} (h : Dn K H v (.int i)) : v = .int i := by cases h; rfl
theorem dn_str {v : V} {i : Str} (h : Dn K H v (.str i)) : v = .str i := by cases h; rfl
theorem ev_andV (h : EvP K B G L Γ ta fun x => ∃ b, x = .bool b ∧ (b = true → EvP K B G L Γ tb k) ∧ (b = false → k (.bool false))) : EvP K B G L Γ (tAndV ta tb) k := fun σ H Q E q =>
  h σ H _ E fun v x H1 g1 dn1 ⟨b, e, h1, h2⟩ => by
    subst e
    refine ⟨b, dn_bool dn1, ?_⟩
    cases b with
    | true => exact iteT (h1 rfl σ H1 Q g1.env fun v d H3 g3 dn hk => q v d H3 (g1.trans g3) dn hk)
    | false => exact iteF (q _ _ H1 g1 (.bl false) (h2 rfl))
theorem ev_orV (h : EvP K B G L Γ ta fun x => ∃ b, x = .bool b ∧ (b = false → EvP K B G L Γ tb k) ∧ (b = true → k (.bool true))) : EvP K B G L Γ (tOrV ta tb) k := fun σ H Q E q =>
  h σ H _ E fun v x H1 g1 dn1 ⟨b, e, h1, h2⟩ => by
    subst e
    refine ⟨b, dn_bool dn1, ?_⟩
    cases b with
    | false => exact iteF (h1 rfl σ H1 Q g1.env fun v d H3 g3 dn hk => q v d H3 (g1.trans g3) dn hk)
    | true => exact iteT (q _ _ H1 g1 (.bl true) (h2 rfl))
theorem ev_notV (h : EvP K B G L Γ ta fun x => ∃ b, x = .bool b ∧ k (.bool (!b))) : EvP K B G L Γ (tNotV ta) k := fun σ H Q E q =>
  h σ H _ E fun v x H1 g1 dn1 ⟨b, e, h1⟩ => by
    subst e
    exact ⟨b, dn_bool dn1, q _ _ H1 g1 (.bl _) h1⟩
/-! tests -/
theorem et_test {kb : Bool → Prop} (h : EvP K B G L Γ te fun x => ∃ b, x = .bool b ∧ kb b) : EvT K B G L Γ (tTest te) kb := fun σ H Q E q =>
  h σ H _ E fun v x H1 g1 dn1 ⟨b, e, h1⟩ => by
    subst e
    exact ⟨b, dn_bool dn1, q b H1 g1 h1⟩
theorem et_B {kb : Bool → Prop} (h : EvP K B G L Γ te fun x => ∃ b, x = .bool b ∧ kb b) : EvT K B G L Γ (tB te) kb := et_test h
theorem et_and {kb : Bool → Prop} (h : EvT K B G L Γ tt fun b => (b = true → EvT K B G L Γ tu kb) ∧ (b = false → kb false)) : EvT K B G L Γ (tAnd tt tu) kb := fun σ H Q E q =>
  h σ H _ E fun b H1 g1 ⟨h1, h2⟩ => by
    cases b with
    | true => exact iteT (h1 rfl σ H1 Q g1.env fun b H3 g3 hk => q b H3 (g1.trans g3) hk)
    | false => exact iteF (q false H1 g1 (h2 rfl))
theorem et_or {kb : Bool → Prop} (h : EvT K B G L Γ tt fun b => (b = false → EvT K B G L Γ tu kb) ∧ (b = true → kb true)) : EvT K B G L Γ (tOr tt tu) kb := fun σ H Q E q =>
  h σ H _ E fun b H1 g1 ⟨h1, h2⟩ => by
    cases b with
    | false => exact iteF (h1 rfl σ H1 Q g1.env fun b H3 g3 hk => q b H3 (g1.trans g3) hk)
    | true => exact iteT (q true H1 g1 (h2 rfl))
theorem et_not {kb : Bool → Prop} (h : EvT K B G L Γ tt fun b => kb (!b)) : EvT K B G L Γ (tNot tt) kb := fun σ H Q E q =>
  h σ H _ E fun b H1 g1 h1 => q (!b) H1 g1 h1
theorem EvT.mono {kb kb' : Bool → Prop} (h : EvT K B G L Γ tt kb) (f : ∀ b, kb b → kb' b) : EvT K B G L Γ tt kb' := fun σ H Q E q => h σ H Q E fun b H' g hk => q b H' g (f b hk)
/-! arguments -/
theorem ea_nil {kl : List PyData → Prop} (h : kl []) : EvA K B G L Γ tNil kl := fun σ H Q E q => q [] [] H (Go.refl E) .nil h
theorem ea_cons {kl : List PyData → Prop} (h : EvP K B G L Γ te fun d => EvA K B G L Γ tr fun ds => kl (d :: ds)) : EvA K B G L Γ (tCons te tr) kl := fun σ H Q E q =>
  h σ H _ E fun v d H1 g1 dn1 h1 => h1 σ H1 _ g1.env fun vs ds H2 g2 dn2 hk => q (v :: vs) (d :: ds) H2 (g1.trans g2) (.cons (dn1.mono g2.sm) dn2) hk
theorem sz_ok {n : Nat} (h : n ≤ 1000000) : n ≤ sizeLine := Nat.le_trans h (by decide)
theorem ev_tup (h : EvA K B G L Γ tr fun ds => ds.length ≤ 1000000 ∧ k (.tuple ds)) : EvP K B G L Γ (tTup tr) k := fun σ H Q E q =>
  h σ H _ E fun vs ds H1 g1 dn1 ⟨hl, hk⟩ => ⟨by rw [dn1.length]; exact sz_ok hl, fun p hp => by
    have g2 := Go.new (o := .tup vs) g1.env hp
    exact q _ _ _ (g1.trans g2) (.tup (.inl (.inl (hid_new (g1.env.newM hp)))) (dn1.mono g2.sm)) hk⟩
theorem hid_none {M : List Addr} {H : Hp} {p : Addr} (h : H p = none) : hid M H p = none := by
  unfold hid
  split
  · rfl
  · exact h
theorem hid_keep {M : List Addr} {H H' : Hp} {p : Addr} (hp : H p = none) (h : Same H H') : Same (hid M H) (hid (p :: M) H') := fun a o e => by
  obtain ⟨q, e⟩ := hid_some e
  rw [hid_out (fun z => by
    rcases List.mem_cons.mp z with z | z
    · rw [z, hp] at e; cases e
    · exact q z)]
  exact h a o e
theorem en_lst {kl : List PyData → Prop} (h : EvA K B G L Γ tr fun ds => ds.length ≤ 1000000 ∧ kl ds) : EvN K B G L Γ (tLst tr) kl := fun σ H Q E q =>
  h σ H _ E fun vs ds H1 g1 dn1 ⟨hl, hk⟩ => ⟨by rw [dn1.length]; exact sz_ok hl, fun p hp => by
    have g2 := Go.new (o := .lst vs) g1.env hp
    refine q p vs ds _ (g1.trans g2) ?_ upd_same (dn1.mono (hid_keep hp (same_upd hp))) hk
    cases e : H p with
    | none => rfl
    | some o =>
      exfalso
      by_cases w : p ∈ L ++ B.M
      · obtain ⟨o', e'⟩ := g1.env.alive p w
        rw [hp] at e'; cases e'
      · have := g1.sm p o (by rw [hid_out w]; exact e)
        rw [hid_none hp] at this; cases this⟩
theorem ev_new (h : EvN K B G L Γ te fun ds => k (.list ds)) : EvP K B G L Γ te k := fun σ H Q E q =>
  h σ H Q E fun p vs ds H' g hp e dn hk => q _ _ H' g (.lst (by rw [hid_out (E.newM hp)]; exact e) (dn.mono (hid_less _ fun a ha => List.mem_cons_of_mem _ ha))) hk
theorem ev_lst (h : EvA K B G L Γ tr fun ds => ds.length ≤ 1000000 ∧ k (.list ds)) : EvP K B G L Γ (tLst tr) k := ev_new (en_lst h)
end
end DL
namespace DL
open PySem PySem.Spec PyProof.Rows L2
section
variable {K : PySem.W.Frag} {B : Bs} {G : List Hp} {L : List Addr} {Γ : List Sl} {H H' H2 : Hp} {σ : L2.St}
variable {te ta tb tc : TE} {tt tu : TT} {tr : TA} {k : PyData → Prop} {x y : PyData}

/-! ### operators -/
theorem rok_i0 {f : Int → Int → Int} {i j : Int} (hk : k (.int (f i j))) : ROk K B G L Γ (rI0 fun i j => .int (f i j)) (.int i) (.int j) k := fun σ H Q v u E d1 d2 q =>
  ⟨i, j, dn_int d1, dn_int d2, q _ _ H (Go.refl E) (.int _) hk⟩
theorem rok_b0 {f : Int → Int → Bool} {i j : Int} (hk : k (.bool (f i j))) : ROk K B G L Γ (rI0 fun i j => .bl (f i j)) (.int i) (.int j) k := fun σ H Q v u E d1 d2 q =>
  ⟨i, j, dn_int d1, dn_int d2, q _ _ H (Go.refl E) (.bl _) hk⟩
theorem rok_i {C : Int → Int → Prop} {f : Int → Int → Int} {i j : Int} (hc : C i j) (hk : k (.int (f i j))) : ROk K B G L Γ (rI C fun i j => .int (f i j)) (.int i) (.int j) k := fun σ H Q v u E d1 d2 q =>
  ⟨i, j, dn_int d1, dn_int d2, hc, q _ _ H (Go.refl E) (.int _) hk⟩
theorem rok_eqI {i j : Int} (hk : k (.bool (decide (i = j)))) : ROk K B G L Γ rEq (.int i) (.int j) k := fun σ H Q v u E d1 d2 q => by
  rw [dn_int d1, dn_int d2]
  refine ⟨rfl, ?_⟩
  have e : decide ((V.int i) = V.int j) = decide (i = j) := by
    by_cases h : i = j
    · subst h; simp
    · rw [decide_eq_false h, decide_eq_false (fun z => h (V.int.inj z))]
  rw [e]
  exact q _ _ H (Go.refl E) (.bl _) hk
theorem rok_neI {i j : Int} (hk : k (.bool (!decide (i = j)))) : ROk K B G L Γ rNe (.int i) (.int j) k := fun σ H Q v u E d1 d2 q => by
  rw [dn_int d1, dn_int d2]
  refine ⟨rfl, ?_⟩
  have e : decide ((V.int i) = V.int j) = decide (i = j) := by
    by_cases h : i = j
    · subst h; simp
    · rw [decide_eq_false h, decide_eq_false (fun z => h (V.int.inj z))]
  rw [e]
  exact q _ _ H (Go.refl E) (.bl _) hk
theorem rok_neS {i j : Str} (hk : k (.bool (!decide (i = j)))) : ROk K B G L Γ rNe (.str i) (.str j) k := fun σ H Q v u E d1 d2 q => by
  rw [dn_str d1, dn_str d2]
  refine ⟨rfl, ?_⟩
  have e : decide ((V.str i) = V.str j) = decide (i = j) := by
    by_cases h : i = j
    · subst h; simp
    · rw [decide_eq_false h, decide_eq_false (fun z => h (V.str.inj z))]
  rw [e]
  exact q _ _ H (Go.refl E) (.bl _) hk
theorem rok_eqS {i j : Str} (hk : k (.bool (decide (i = j)))) : ROk K B G L Γ rEq (.str i) (.str j) k := fun σ H Q v u E d1 d2 q => by
  rw [dn_str d1, dn_str d2]
  refine ⟨rfl, ?_⟩
  have e : decide ((V.str i) = V.str j) = decide (i = j) := by
    by_cases h : i = j
    · subst h; simp
    · rw [decide_eq_false h, decide_eq_false (fun z => h (V.str.inj z))]
  rw [e]
  exact q _ _ H (Go.refl E) (.bl _) hk
theorem rok_isB {i j : Bool} (hk : k (.bool (decide (i = j)))) : ROk K B G L Γ rIsB (.bool i) (.bool j) k := fun σ H Q v u E d1 d2 q =>
  ⟨i, j, dn_bool d1, dn_bool d2, q _ _ H (Go.refl E) (.bl _) hk⟩
theorem rok_notB {i j : Bool} (hk : k (.bool (!decide (i = j)))) : ROk K B G L Γ rNotB (.bool i) (.bool j) k := fun σ H Q v u E d1 d2 q =>
  ⟨i, j, dn_bool d1, dn_bool d2, q _ _ H (Go.refl E) (.bl _) hk⟩
theorem dna_at {vs : List V} {ds : List PyData} (h : DnA K H vs ds) {i : Int} {d : PyData} (e : atI ds i = some d) : ∃ v, atI vs i = some v ∧ Dn K H v d := by
  unfold atI at e ⊢
  rw [h.length]
  cases q : ixN ds.length i with
  | none => rw [q] at e; cases e
  | some j =>
    rw [q] at e
    exact h.get e
theorem rok_ixT {ds : List PyData} {i : Int} {d : PyData} (e : atI ds i = some d) (hk : k d) : ROk K B G L Γ (rIxT K) (.tuple ds) (.int i) k := fun σ H Q v u E d1 d2 q => by
  cases d1 with
  | tup h1 h2 =>
    obtain ⟨w, e2, dn⟩ := dna_at h2 e
    exact ⟨_, _, i, w, rfl, dn_int d2, Same.sqt (hid_sub _ _) h1, e2, q _ _ H (Go.refl E) dn hk⟩
theorem rok_ixL {ds : List PyData} {i : Int} {d : PyData} (e : atI ds i = some d) (hk : k d) : ROk K B G L Γ (rIxL K) (.list ds) (.int i) k := fun σ H Q v u E d1 d2 q => by
  cases d1 with
  | lst h1 h2 =>
    obtain ⟨w, e2, dn⟩ := dna_at h2 e
    exact ⟨_, _, i, w, rfl, dn_int d2, .inl (.inl (hid_sub _ _ _ _ h1)), e2, q _ _ H (Go.refl E) dn hk⟩
theorem rok_ixsT {ds : List PyData} {i : Int} {d : PyData} (e : atI ds i = some d) (hk : k d) : ROk K B G L Γ (rIx K) (.tuple ds) (.int i) k := fun σ H Q v u E d1 d2 q =>
  .inr (.inl (rok_ixT e hk σ H Q v u E d1 d2 q))
theorem rok_ixsL {ds : List PyData} {i : Int} {d : PyData} (e : atI ds i = some d) (hk : k d) : ROk K B G L Γ (rIx K) (.list ds) (.int i) k := fun σ H Q v u E d1 d2 q =>
  .inl (rok_ixL e hk σ H Q v u E d1 d2 q)
/-- tuple + tuple -/
theorem rok_catT {ds es : List PyData} (hl : ds.length + es.length ≤ 1000000) (hk : k (.tuple (ds ++ es))) : ROk K B G L Γ (rCatA K) (.tuple ds) (.tuple es) k := fun σ H Q v u E d1 d2 q => by
  cases d1 with
  | @tup a xs _ h1 h2 =>
    cases d2 with
    | @tup b ys _ h3 h4 =>
      refine ⟨a, b, xs, ys, rfl, rfl, Same.sqt (hid_sub _ _) h1, Same.sqt (hid_sub _ _) h3, by rw [h2.length, h4.length]; exact sz_ok hl, fun e => ?_, fun _ e => ?_, fun _ _ p hp => ?_⟩
      · subst e
        have z : ds = [] := List.eq_nil_of_length_eq_zero h2.length.symm
        subst z
        exact q _ _ H (Go.refl E) (.tup h3 h4) hk
      · subst e
        have z : es = [] := List.eq_nil_of_length_eq_zero h4.length.symm
        subst z
        rw [List.append_nil] at hk
        exact q _ _ H (Go.refl E) (.tup h1 h2) hk
      · have g := Go.new (o := .tup (xs ++ ys)) E hp
        exact q _ _ _ g (.tup (.inl (.inl (hid_new (E.newM hp)))) (DnA.append (h2.mono g.sm) (h4.mono g.sm))) hk
/-- list + list -/
theorem rok_catL {ds es : List PyData} (hl : ds.length + es.length ≤ 1000000) (hk : k (.list (ds ++ es))) : ROk K B G L Γ rCat (.list ds) (.list es) k := fun σ H Q v u E d1 d2 q => by
  cases d1 with
  | @lst a xs _ h1 h2 =>
    cases d2 with
    | @lst b ys _ h3 h4 =>
      refine ⟨a, b, xs, ys, rfl, rfl, hid_sub _ _ _ _ h1, hid_sub _ _ _ _ h3, by rw [h2.length, h4.length]; exact sz_ok hl, fun p hp => ?_⟩
      have g := Go.new (o := .lst (xs ++ ys)) E hp
      exact q _ _ _ g (.lst (hid_new (E.newM hp)) (DnA.append (h2.mono g.sm) (h4.mono g.sm))) hk
theorem DnA.reps {vs : List V} {ds : List PyData} (h : DnA K H vs ds) : ∀ n : Nat, DnA K H (List.replicate n vs).flatten (List.replicate n ds).flatten
  | 0 => .nil
  | n + 1 => by
    rw [List.replicate_succ, List.replicate_succ, List.flatten_cons, List.flatten_cons]
    exact DnA.append h (DnA.reps h n)
/-- list * int -/
theorem rok_repL {ds : List PyData} {n : Int} (h0 : 0 ≤ n) (h1 : n ≤ 100000) (hl : ds.length * n.toNat ≤ 1000000) (hk : k (.list (List.replicate n.toNat ds).flatten)) : ROk K B G L Γ rRep (.list ds) (.int n) k := fun σ H Q v u E d1 d2 q => by
  cases d1 with
  | @lst a xs _ e1 h2 =>
    refine ⟨a, n, xs, rfl, dn_int d2, hid_sub _ _ _ _ e1, by omega, by omega, by rw [h2.length]; exact sz_ok hl, fun p hp => ?_⟩
    have g := Go.new (o := .lst (List.replicate n.toNat xs).flatten) E hp
    exact q _ _ _ g (.lst (hid_new (E.newM hp)) ((h2.mono g.sm).reps _)) hk
/-! unary -/
theorem uok_neg {i : Int} (hk : k (.int (-i))) : UOk K B G L Γ (rU fun i => .int (-i)) (.int i) k := fun σ H Q v E d1 q => ⟨i, dn_int d1, q _ _ H (Go.refl E) (.int _) hk⟩

/-! ### slices -/
def EvO (K : PySem.W.Frag) (B : Bs) (G : List Hp) (L : List Addr) (Γ : List Sl) (to : TO) (ko : Option Int → Prop) : Prop := ∀ (σ : L2.St) (H : Hp) (Q : Option Int → Hp → Prop), Env K B G L H σ Γ →
  (∀ o H', Go K B G L Γ H H' σ → ko o → Q o H') → to σ H Q
theorem eo_no {ko : Option Int → Prop} (h : ko none) : EvO K B G L Γ tNoPart ko := fun σ H Q E q => q none H (Go.refl E) h
theorem eo_some {ko : Option Int → Prop} (h : EvP K B G L Γ te fun d => ∃ i, d = .int i ∧ ko (some i)) : EvO K B G L Γ (tPart te) ko := fun σ H Q E q =>
  h σ H _ E fun v d H1 g1 dn ⟨i, e, hk⟩ => by
    subst e
    exact ⟨i, dn_int dn, q _ H1 g1 hk⟩
def cutD (ds : List PyData) (lo hi : Option Int) : List PyData := (ds.drop (HT.sIx ds.length 0 lo)).take (HT.sIx ds.length ds.length hi - HT.sIx ds.length 0 lo)
theorem dna_cut {vs : List V} {ds : List PyData} (h : DnA K H vs ds) (lo hi : Option Int) : DnA K H (cutV vs lo hi) (cutD ds lo hi) := by
  unfold cutV cutD
  rw [h.length]
  exact (h.drop _).take _
def SOk (K : PySem.W.Frag) (B : Bs) (G : List Hp) (L : List Addr) (Γ : List Sl) (r : V → Option Int → Option Int → Hp → VK → Prop) (x : PyData) (lo hi : Option Int) (k : PyData → Prop) : Prop :=
  ∀ (σ : L2.St) (H : Hp) (Q : VK) (v : V), Env K B G L H σ Γ → Dn K (hid (L ++ B.M) H) v x → (∀ z d H', Go K B G L Γ H H' σ → Dn K (hid (L ++ B.M) H') z d → k d → Q z H') → r v lo hi H Q
theorem ev_sl {r : V → Option Int → Option Int → Hp → VK → Prop} {tl th : TO} (h : EvP K B G L Γ te fun x => EvO K B G L Γ tl fun lo => EvO K B G L Γ th fun hi => SOk K B G L Γ r x lo hi k) : EvP K B G L Γ (tSl r te tl th) k := fun σ H Q E q =>
  h σ H _ E fun v x H1 g1 dn1 h1 => h1 σ H1 _ g1.env fun lo H2 g2 h2 => h2 σ H2 _ g2.env fun hi H3 g3 h3 => h3 σ H3 Q v g3.env ((dn1.mono g2.sm).mono g3.sm) fun z d H4 g4 dn4 hk => q z d H4 (((g1.trans g2).trans g3).trans g4) dn4 hk
theorem sok_tup {ds : List PyData} {lo hi : Option Int} (hk : k (.tuple (cutD ds lo hi))) : SOk K B G L Γ (rSlA K) (.tuple ds) lo hi k := fun σ H Q v E d1 q => by
  cases d1 with
  | @tup a xs _ e1 h2 =>
    refine ⟨a, xs, rfl, Same.sqt (hid_sub _ _) e1, fun e => ?_, fun _ p hp => ?_⟩
    · have z : cutD ds lo hi = ds := by
        unfold cutD
        rw [← h2.length, e.1, e.2, h2.length]
        simp
      rw [z] at hk
      exact q _ _ H (Go.refl E) (.tup e1 h2) hk
    · have g := Go.new (o := .tup (cutV xs lo hi)) E hp
      exact q _ _ _ g (.tup (.inl (.inl (hid_new (E.newM hp)))) (dna_cut (h2.mono g.sm) lo hi)) hk
theorem sok_lst {ds : List PyData} {lo hi : Option Int} (hk : k (.list (cutD ds lo hi))) : SOk K B G L Γ (rSlL K) (.list ds) lo hi k := fun σ H Q v E d1 q => by
  cases d1 with
  | @lst a xs _ e1 h2 =>
    refine ⟨a, xs, rfl, .inl (.inl (hid_sub _ _ _ _ e1)), fun p hp => ?_⟩
    have g := Go.new (o := .lst (cutV xs lo hi)) E hp
    exact q _ _ _ g (.lst (hid_new (E.newM hp)) (dna_cut (h2.mono g.sm) lo hi)) hk

/-! ### calls of built-ins -/
def rLenQ (K : PySem.W.Frag) : List V → Hp → VK → Prop := fun xs H Q => ∃ p ys, xs = [.ref p] ∧ (SqL K H p ys ∨ SqT K H p ys) ∧ Q (.int ys.length) H
theorem cok_lenT {ds : List PyData} (hk : k (.int ds.length)) : COk K B G L Γ (fun xs H Q => ∃ p ys, xs = [.ref p] ∧ (SqL K H p ys ∨ SqT K H p ys) ∧ Q (.int ys.length) H) [.tuple ds] k := fun σ H Q vs E d1 q => by
  cases d1 with
  | cons h1 h2 =>
    cases h2
    cases h1 with
    | @tup a xs _ e1 h2 =>
      refine ⟨a, xs, rfl, .inr (Same.sqt (hid_sub _ _) e1), ?_⟩
      rw [h2.length]
      exact q _ _ H (Go.refl E) (.int _) hk
theorem cok_lenL {ds : List PyData} (hk : k (.int ds.length)) : COk K B G L Γ (fun xs H Q => ∃ p ys, xs = [.ref p] ∧ (SqL K H p ys ∨ SqT K H p ys) ∧ Q (.int ys.length) H) [.list ds] k := fun σ H Q vs E d1 q => by
  cases d1 with
  | cons h1 h2 =>
    cases h2
    cases h1 with
    | @lst a xs _ e1 h2 =>
      refine ⟨a, xs, rfl, .inl (.inl (.inl (hid_sub _ _ _ _ e1))), ?_⟩
      rw [h2.length]
      exact q _ _ H (Go.refl E) (.int _) hk
theorem cok_abs {i : Int} (hk : k (.int (if i < 0 then -i else i))) : COk K B G L Γ (fun xs H Q => ∃ i, xs = [.int i] ∧ Q (.int (if i < 0 then -i else i)) H) [.int i] k := fun σ H Q vs E d1 q => by
  cases d1 with
  | cons h1 h2 =>
    cases h2
    cases h1
    exact ⟨i, rfl, q _ _ H (Go.refl E) (.int _) hk⟩
theorem cok_intI {i : Int} (hk : k (.int i)) : COk K B G L Γ (fun xs H Q => (∃ i, xs = [.int i] ∧ Q (.int i) H) ∨ ∃ k, xs = [.bl k] ∧ Q (.int (if k then 1 else 0)) H) [.int i] k := fun σ H Q vs E d1 q => by
  cases d1 with
  | cons h1 h2 =>
    cases h2
    cases h1
    exact .inl ⟨i, rfl, q _ _ H (Go.refl E) (.int _) hk⟩
theorem cok_gcd {i j : Int} (hk : k (.int (Nat.gcd i.natAbs j.natAbs : Nat))) : COk K B G L Γ rGcd [.int i, .int j] k := fun σ H Q vs E d1 q => by
  cases d1 with
  | cons h1 h2 =>
    cases h2 with
    | cons h2 h3 =>
      cases h3
      cases h1
      cases h2
      exact ⟨i, j, rfl, q _ _ H (Go.refl E) (.int _) hk⟩
theorem cok_all {bs : List Bool} (hk : k (.bool (bs.all id))) : COk K B G L Γ (rAll K) [.list (bs.map .bool)] k := fun σ H Q vs E d1 q => by
  cases d1 with
  | cons h1 h2 =>
    cases h2
    cases h1 with
    | @lst a xs _ e1 h2 =>
      have e := h2.bools
      subst e
      exact ⟨a, bs, rfl, .inl (.inl (hid_sub _ _ _ _ e1)), q _ _ H (Go.refl E) (.bl _) hk⟩
theorem Go.fresh (E : Env K B G L H σ Γ) (g : Go K B G L Γ H H' σ) {p : Addr} (hp : H' p = none) : H p = none := by
  cases e : H p with
  | none => rfl
  | some o =>
    exfalso
    by_cases w : p ∈ L ++ B.M
    · obtain ⟨o', e'⟩ := g.env.alive p w
      rw [hp] at e'; cases e'
    · have := g.sm p o (by rw [hid_out w]; exact e)
      rw [hid_none hp] at this; cases this
theorem en_list {kl : List PyData → Prop} (h : EvP K B G L Γ te fun d => ∃ ds, (d = .tuple ds ∨ d = .list ds) ∧ kl ds) :
    EvN K B G L Γ (tCB (fun xs H Q => ∃ p ys, xs = [.ref p] ∧ (SqL K H p ys ∨ SqT K H p ys) ∧ ∀ l, H l = none → Q (.ref l) (upd H l (.lst ys))) (tCons te tNil)) kl := fun σ H Q E q =>
  h σ H _ E fun v d H1 g1 dn ⟨ds, e, hk⟩ => by
    rcases e with rfl | rfl
    · cases dn with
      | @tup a xs _ e1 h2 =>
        refine ⟨a, xs, rfl, .inr (Same.sqt (hid_sub _ _) e1), fun l hl => ?_⟩
        have g2 := Go.new (o := .lst xs) g1.env hl
        exact q l xs ds _ (g1.trans g2) (Go.fresh E g1 hl) upd_same (h2.mono (hid_keep hl (same_upd hl))) hk
    · cases dn with
      | @lst a xs _ e1 h2 =>
        refine ⟨a, xs, rfl, .inl (.inl (.inl (hid_sub _ _ _ _ e1))), fun l hl => ?_⟩
        have g2 := Go.new (o := .lst xs) g1.env hl
        exact q l xs ds _ (g1.trans g2) (Go.fresh E g1 hl) upd_same (h2.mono (hid_keep hl (same_upd hl))) hk
/-- tuple(x) of a list (data) -/
theorem cok_tupL {ds : List PyData} (hk : k (.tuple ds)) : COk K B G L Γ (fun xs H Q => ∃ p ys, xs = [.ref p] ∧ ((SqL K H p ys ∧ ∀ l, H l = none → Q (.ref l) (upd H l (.tup ys))) ∨ (SqT K H p ys ∧ Q (.ref p) H))) [.list ds] k := fun σ H Q vs E d1 q => by
  cases d1 with
  | cons h1 h2 =>
    cases h2
    cases h1 with
    | @lst a xs _ e1 h2 =>
      refine ⟨a, xs, rfl, .inl ⟨.inl (.inl (hid_sub _ _ _ _ e1)), fun l hl => ?_⟩⟩
      have g2 := Go.new (o := .tup xs) E hl
      exact q _ _ _ g2 (.tup (.inl (.inl (hid_new (E.newM hl)))) (h2.mono g2.sm)) hk
/-! ### isinstance -/
def tyD : PyData → String
  | .none => "NoneType"
  | .bool _ => "bool"
  | .int _ => "int"
  | .str _ => "str"
  | .list _ => "list"
  | .tuple _ => "tuple"
  | .dict _ => "dict"
theorem sqt_ty {a : Addr} {xs : List V} (h : SqT K H a xs) : TyX K H (.ref a) (.type "tuple") := by
  rcases h with (h | ⟨o, h⟩) | ⟨o, its, n, h1, h2, _⟩
  · exact .base (.tup h)
  · exact .fTuple h
  · exact .kTuple h1 h2
theorem dn_ty {v : V} {d : PyData} (h : Dn K H v d) : TyX K H v (.type (tyD d)) := by
  cases h with
  | non => exact .base .non
  | bl b => exact .base (.bl b)
  | int i => exact .base (.int i)
  | str x => exact .base (.str x)
  | lst h1 h2 => exact .base (.lst h1)
  | tup h1 h2 => exact sqt_ty h1
  | emp h q => exact .base (.dK h)
theorem ev_isi {n : String} (h : EvP K B G L Γ te fun d => ∃ b, kitB (tyD d) n = some b ∧ k (.bool b)) : EvP K B G L Γ (tCB (rIsi K) (tCons te (tCons (tC (.ty n)) tNil))) k := fun σ H Q E q =>
  h σ H _ E fun v d H1 g1 dn ⟨b, e, hk⟩ => ⟨v, .ty n, .type (tyD d), .type n, b, rfl, .ty n, dn_ty (dn.mono (hid_sub _ _)), kit_ty e, q _ _ H1 g1 (.bl b) hk⟩
end
end DL
namespace DL
open PySem PySem.Spec PyProof.Rows L2

/-! ### statements -/
structure PD where
  nx : List Addr → List Sl → Prop
  rt : PyData → Prop
  bk : List Addr → List Sl → Prop := fun _ _ => False
  ct : List Addr → List Sl → Prop := fun _ _ => False
/-- the heap at a def's end -/
structure Out (B : Bs) (H : Hp) : Prop where
  fr : ∀ a o, a ∉ B.Ws → B.H a = some o → H a = some o
  ws : ∀ w ∈ B.Ws, WellAt H w
structure Mt (K : PySem.W.Frag) (B : Bs) (G : List Hp) (P : PD) (D : Ends) : Prop where
  nx : ∀ L Γ σ H, P.nx L Γ → Env K B G L H σ Γ → D.nx σ H
  rt : ∀ v d H, P.rt d → Out B H → Dn K (hid B.M H) v d → D.rt v H
  bk : ∀ L Γ σ H, P.bk L Γ → Env K B G L H σ Γ → D.bk σ H
  ct : ∀ L Γ σ H, P.ct L Γ → Env K B G L H σ Γ → D.ct σ H
def StP (K : PySem.W.Frag) (B : Bs) (G : List Hp) (L : List Addr) (Γ : List Sl) (ts : TS) (P : PD) : Prop := ∀ (σ : L2.St) (H : Hp) (D : Ends), Env K B G L H σ Γ → Mt K B G P D → ts D σ H
section
variable {K : PySem.W.Frag} {B : Bs} {G : List Hp} {L : List Addr} {Γ : List Sl} {H H' H2 : Hp} {σ : L2.St}
variable {te ta tb tc : TE} {tt tu : TT} {tr : TA} {k : PyData → Prop} {x y : PyData} {P P' : PD} {t u : TS}
theorem Env.out (E : Env K B G L H σ Γ) : Out B H := ⟨E.fr, E.ws⟩
theorem hid_M (L M : List Addr) (H : Hp) : Same (hid (L ++ M) H) (hid M H) := hid_less H fun a h => List.mem_append_right _ h
theorem st_seq (h : StP K B G L Γ t { P with nx := fun L' Γ' => StP K B G L' Γ' u P }) : StP K B G L Γ (tSeq t u) P := fun σ H D E M =>
  h σ H { D with nx := u D } E ⟨fun L' Γ' σ' H' hs E' => hs σ' H' D E' M, M.rt, M.bk, M.ct⟩
theorem st_next (h : P.nx L Γ) : StP K B G L Γ tNext P := fun σ H D E M => M.nx L Γ σ H h E
theorem st_asg {i : Nat} (h : EvP K B G L Γ te fun d => P.nx L (Γ.set i (.d d))) : StP K B G L Γ (tAsg te (gName i)) P := fun σ H D E M =>
  h σ H _ E fun v d H1 g1 dn hk => M.nx _ _ _ _ hk (g1.env.put i dn)
theorem st_drop (h : EvP K B G L Γ te fun d => P.nx L Γ) : StP K B G L Γ (tDrop te) P := fun σ H D E M =>
  h σ H _ E fun v d H1 g1 dn hk => M.nx _ _ _ _ hk g1.env
theorem st_ret (h : EvP K B G L Γ te P.rt) : StP K B G L Γ (tRet te) P := fun σ H D E M =>
  h σ H _ E fun v d H1 g1 dn hk => M.rt _ _ _ hk g1.env.out (dn.mono (hid_M _ _ _))
theorem st_if (h : EvT K B G L Γ tt fun b => (b = true → StP K B G L Γ t P) ∧ (b = false → StP K B G L Γ u P)) : StP K B G L Γ (tIfS tt t u) P := fun σ H D E M =>
  h σ H _ E fun b H1 g1 ⟨h1, h2⟩ => by
    cases b with
    | true => exact iteT (h1 rfl σ H1 D g1.env M)
    | false => exact iteF (h2 rfl σ H1 D g1.env M)
/-- what is known of a slot is forgotten -/
theorem Env.weak (E : Env K B G L H σ Γ) (i : Nat) : Env K B G L H σ (Γ.set i .un) := by
  have g : ∀ (j : Nat) (s : Sl), (Γ.set i .un)[j]? = some s → s = .un ∨ Γ[j]? = some s := fun j s hj => by
    by_cases e : j = i
    · subst e
      by_cases hl : j < Γ.length
      · rw [List.getElem?_set_self hl] at hj
        exact .inl (Option.some.inj hj).symm
      · rw [List.getElem?_eq_none (by rw [List.length_set]; omega)] at hj
        cases hj
    · rw [List.getElem?_set_ne (Ne.symm e)] at hj
      exact .inr hj
  refine ⟨E.fr, E.ws, E.wm, E.lm, E.lo, by rw [List.length_set]; exact E.len, fun j s hj => ?_, E.gh, fun j l xs hj => ?_, fun j k l xs ys hj hk => ?_, fun j w hj => ?_⟩
  · rcases g j s hj with rfl | hj
    · trivial
    · exact E.sl j s hj
  · rcases g j _ hj with e | hj
    · cases e
    · exact E.ow j l xs hj
  · rcases g j _ hj with e | hj
    · cases e
    · rcases g k _ hk with e | hk
      · cases e
      · exact E.ou j k l xs ys hj hk
  · rcases g j _ hj with e | hj
    · cases e
    · exact E.we j w hj
/-- several targets -/
def TgP (K : PySem.W.Frag) (B : Bs) (G : List Hp) (L : List Addr) (Γ : List Sl) (tg : TGs) (ds : List PyData) (kx : List Sl → Prop) : Prop :=
  ∀ (σ : L2.St) (H : Hp) (vs : List V) (Q : L2.St → Hp → Prop), Env K B G L H σ Γ → DnA K (hid (L ++ B.M) H) vs ds → (∀ Γ' σ' , Env K B G L H σ' Γ' → kx Γ' → Q σ' H) → tg vs σ H Q
theorem tg_nil {kx : List Sl → Prop} (h : kx Γ) : TgP K B G L Γ gNil [] kx := fun σ H vs Q E d q => by
  cases d
  exact ⟨rfl, q Γ σ E h⟩
theorem tg_cons {i : Nat} {tg : TGs} {d : PyData} {ds : List PyData} {kx : List Sl → Prop} (h : TgP K B G L (Γ.set i (.d d)) tg ds kx) : TgP K B G L Γ (gCons (gName i) tg) (d :: ds) kx := fun σ H vs Q E dn q => by
  cases dn with
  | cons h1 h2 => exact ⟨_, _, rfl, h _ H _ Q (E.put i h1) h2 q⟩
theorem st_unpack {n : Nat} {tg : TGs} (h : EvP K B G L Γ te fun d => ∃ ds, d = .tuple ds ∧ ds.length = n ∧ TgP K B G L Γ tg ds fun Γ' => P.nx L Γ') : StP K B G L Γ (tAsg te (gTup K n tg)) P := fun σ H D E M =>
  h σ H _ E fun v d H1 g1 dn ⟨ds, e, hn, ht⟩ => by
    subst e
    cases dn with
    | @tup a xs _ e1 h2 =>
      exact ⟨a, xs, rfl, Same.sqt (hid_sub _ _) e1, by rw [h2.length]; exact hn, ht σ H1 xs _ g1.env h2 fun Γ' σ' E' hk => M.nx _ _ _ _ hk E'⟩
theorem st_par {i j : Nat} (h : EvA K B G L Γ tr fun ds => ∃ x y, ds = [x, y] ∧ P.nx L ((Γ.set i (.d x)).set j (.d y))) : StP K B G L Γ (tPar i j tr) P := fun σ H D E M =>
  h σ H _ E fun vs ds H1 g1 dn ⟨x, y, e, hk⟩ => by
    subst e
    cases dn with
    | cons h1 h2 =>
      cases h2 with
      | cons h2 h3 =>
        cases h3
        exact ⟨_, _, rfl, M.nx _ _ _ _ hk ((g1.env.put i h1).put j h2)⟩
theorem st_par3 {i j l : Nat} (h : EvA K B G L Γ tr fun ds => ∃ x y z, ds = [x, y, z] ∧ P.nx L (((Γ.set i (.d x)).set j (.d y)).set l (.d z))) : StP K B G L Γ (tPar3 i j l tr) P := fun σ H D E M =>
  h σ H _ E fun vs ds H1 g1 dn ⟨x, y, z, e, hk⟩ => by
    subst e
    cases dn with
    | cons h1 h2 =>
      cases h2 with
      | cons h2 h3 =>
        cases h3 with
        | cons h3 h4 =>
          cases h4
          exact ⟨_, _, _, rfl, M.nx _ _ _ _ hk (((g1.env.put i h1).put j h2).put l h3)⟩
/-! ### local lists -/
theorem Go.keepL {l : Addr} (E : Env K B G L H σ Γ) (g : Go K B G L Γ H H' σ) (hl : H l = none) : Same (hid (L ++ B.M) H) (hid (l :: L ++ B.M) H') := fun a o e => by
  obtain ⟨q, e1⟩ := hid_some e
  have q2 : a ∉ l :: L ++ B.M := fun z => by
    rcases List.mem_cons.mp z with z | z
    · rw [z, hl] at e1; cases e1
    · exact q z
  rw [hid_out q2]
  exact (hid_some (g.sm a o e)).2
/-- a fresh list becomes a slot's own -/
theorem Env.take {l : Addr} {vs : List V} {ds : List PyData} (E : Env K B G L H σ Γ) (g : Go K B G L Γ H H' σ) (hl : H l = none) (h : H' l = some (.lst vs)) (i : Nat)
    (hself : DnA K (hid (l :: (L ++ B.M)) H') vs ds) : Env K B G (l :: L) H' (σ.set i (some (.ref l))) (Γ.set i (.own l ds)) := by
  have E' := g.env
  have hkeep := g.keepL E hl
  have nL : l ∉ L := fun q => by
    obtain ⟨_, xs, e⟩ := E.lo l q
    rw [hl] at e; cases e
  have gt : ∀ (j : Nat) (s : Sl), (Γ.set i (.own l ds))[j]? = some s → (j = i ∧ s = .own l ds ∧ j < Γ.length) ∨ (j ≠ i ∧ Γ[j]? = some s) := fun j s hj => by
    by_cases e : j = i
    · subst e
      refine .inl ⟨rfl, ?_⟩
      by_cases hl : j < Γ.length
      · rw [List.getElem?_set_self hl] at hj
        exact ⟨(Option.some.inj hj).symm, hl⟩
      · rw [List.getElem?_eq_none (by rw [List.length_set]; omega)] at hj
        cases hj
    · rw [List.getElem?_set_ne (Ne.symm e)] at hj
      exact .inr ⟨e, hj⟩
  refine ⟨E'.fr, E'.ws, E'.wm, E'.lm, fun m hm => ?_, by rw [List.length_set, List.length_set]; exact E'.len, fun j s hj => ?_, fun p hp => (E.gh p hp).trans hkeep, fun j m xs hj => ?_, fun j k m xs ys hj hk => ?_, fun j w hj => ?_⟩
  · rcases List.mem_cons.mp hm with rfl | hm
    · refine ⟨?_, _, h⟩
      cases e : B.H m with
      | none => rfl
      | some o =>
        exfalso
        by_cases w : m ∈ B.Ws
        · obtain ⟨_, _, _, q, _⟩ := E.ws m w
          rw [hl] at q; cases q
        · have q := E.fr m o w e
          rw [hl] at q; cases q
    · exact E'.lo m hm
  · rcases gt j s hj with ⟨rfl, rfl, hj'⟩ | ⟨ne, hj'⟩
    · refine ⟨?_, vs, h, hself⟩
      rw [List.getElem?_set_self (by rw [E'.len]; exact hj')]
      rfl
    · rw [List.getElem?_set_ne (Ne.symm ne)]
      have q := E.sl j s hj'
      cases s with
      | un => trivial
      | d x =>
        obtain ⟨v, e, dn⟩ := q
        exact ⟨v, e, dn.mono hkeep⟩
      | own m xs =>
        obtain ⟨e, ws, hm, dnm⟩ := q
        exact ⟨e, ws, g.kp m (E.ow j m xs hj') _ hm, dnm.mono hkeep⟩
      | well w => exact q
      | raw v => exact q
  · rcases gt j _ hj with ⟨_, e, _⟩ | ⟨_, hj⟩
    · cases e
      exact List.mem_cons_self ..
    · exact List.mem_cons_of_mem _ (E'.ow j m xs hj)
  · rcases gt j _ hj with ⟨ej, e, _⟩ | ⟨_, hj⟩
    · rcases gt k _ hk with ⟨ek, e', _⟩ | ⟨_, hk⟩
      · rw [ej, ek]
      · exfalso
        cases e
        exact nL (E'.ow k _ _ hk)
    · rcases gt k _ hk with ⟨ek, e', _⟩ | ⟨_, hk⟩
      · exfalso
        cases e'
        exact nL (E'.ow j _ _ hj)
      · exact E'.ou j k m xs ys hj hk
  · rcases gt j _ hj with ⟨_, e, _⟩ | ⟨_, hj⟩
    · cases e
    · exact E'.we j w hj
/-- an own list's new content -/
theorem Env.write {i : Nat} {l : Addr} {xs ys : List PyData} {vs : List V} (E : Env K B G L H σ Γ) (hi : Γ[i]? = some (.own l xs)) (dn : DnA K (hid (L ++ B.M) H) vs ys) :
    Env K B G L (upd H l (.lst vs)) σ (Γ.set i (.own l ys)) := by
  have hl := E.ow i l xs hi
  have lM : l ∈ L ++ B.M := List.mem_append_left _ hl
  have hs : Same (hid (L ++ B.M) H) (hid (L ++ B.M) (upd H l (.lst vs))) := fun a o e => by
    obtain ⟨q, e⟩ := hid_some e
    rw [hid_out q, upd_ne (fun (z : a = l) => q (by rw [z]; exact lM))]
    exact e
  have gt : ∀ (j : Nat) (s : Sl), (Γ.set i (.own l ys))[j]? = some s → (j = i ∧ s = .own l ys ∧ j < Γ.length) ∨ (j ≠ i ∧ Γ[j]? = some s) := fun j s hj => by
    by_cases e : j = i
    · subst e
      refine .inl ⟨rfl, ?_⟩
      by_cases hl : j < Γ.length
      · rw [List.getElem?_set_self hl] at hj
        exact ⟨(Option.some.inj hj).symm, hl⟩
      · rw [List.getElem?_eq_none (by rw [List.length_set]; omega)] at hj
        cases hj
    · rw [List.getElem?_set_ne (Ne.symm e)] at hj
      exact .inr ⟨e, hj⟩
  refine ⟨fun a o w e => ?_, fun w hw => ?_, E.wm, E.lm, fun m hm => ?_, by rw [List.length_set]; exact E.len, fun j s hj => ?_, fun p hp => (E.gh p hp).trans hs, fun j m zs hj => ?_, fun j k m zs ws hj hk => ?_, fun j w hj => ?_⟩
  · rw [upd_ne]
    · exact E.fr a o w e
    · rintro rfl
      rw [(E.lo a hl).1] at e; cases e
  · obtain ⟨n, b, c, e, q⟩ := E.ws w hw
    refine ⟨n, b, c, ?_, q⟩
    rw [upd_ne (fun (z : w = l) => E.lW hl (by rw [← z]; exact hw))]
    exact e
  · refine ⟨(E.lo m hm).1, ?_⟩
    by_cases z : m = l
    · exact ⟨vs, by rw [z]; exact upd_same⟩
    · rw [upd_ne z]
      exact (E.lo m hm).2
  · rcases gt j s hj with ⟨rfl, rfl, hj'⟩ | ⟨ne, hj'⟩
    · obtain ⟨e, _⟩ := E.sl j _ hi
      exact ⟨e, vs, upd_same, dn.mono hs⟩
    · have q := E.sl j s hj'
      cases s with
      | un => trivial
      | d x =>
        obtain ⟨v, e, dn⟩ := q
        exact ⟨v, e, dn.mono hs⟩
      | own m zs =>
        obtain ⟨e, ws, hm, dnm⟩ := q
        refine ⟨e, ws, ?_, dnm.mono hs⟩
        rw [upd_ne (fun (z : m = l) => ne (E.ou j i m zs xs hj' (by rw [z]; exact hi)))]
        exact hm
      | well w => exact q
      | raw v => exact q
  · rcases gt j _ hj with ⟨_, e, _⟩ | ⟨_, hj⟩
    · cases e
      exact hl
    · exact E.ow j m zs hj
  · rcases gt j _ hj with ⟨ej, e, _⟩ | ⟨nj, hj⟩
    · rcases gt k _ hk with ⟨ek, e', _⟩ | ⟨_, hk⟩
      · rw [ej, ek]
      · cases e
        rw [ej]
        exact E.ou i k _ _ _ hi hk
    · rcases gt k _ hk with ⟨ek, e', _⟩ | ⟨_, hk⟩
      · cases e'
        rw [ek]
        exact E.ou j i _ _ _ hj hi
      · exact E.ou j k m zs ws hj hk
  · rcases gt j _ hj with ⟨_, e, _⟩ | ⟨_, hj⟩
    · cases e
    · exact E.we j w hj
/-- xs[i] = e, xs an own list -/
theorem st_setOwn {i : Nat} {l : Addr} {xs : List PyData} (hi : Γ[i]? = some (.own l xs)) (h : EvP K B G L Γ te fun d => EvP K B G L Γ tb fun n => ∃ j : Nat, n = .int (j : Int) ∧ j < xs.length ∧ P.nx L (Γ.set i (.own l (xs.set j d)))) :
    StP K B G L Γ (tAsg te (gSub (tVar i) tb rSetL)) P := fun σ H D E M =>
  h σ H _ E fun v d H1 g1 dn1 h2 => by
    obtain ⟨e, vs, hl, dn⟩ := g1.env.getO hi
    refine ⟨_, e, h2 σ H1 _ g1.env fun u n H2 g2 dn2 ⟨j, en, hj, hk⟩ => ?_⟩
    subst en
    obtain ⟨e, ws, hl2, dn3⟩ := g2.env.getO hi
    refine ⟨l, ws, (j : Int), j, rfl, dn_int dn2, hl2, ?_, M.nx _ _ _ _ hk (Env.write g2.env hi (dn3.set j (dn1.mono g2.sm)))⟩
    rw [dn3.length]
    unfold ixN
    rw [if_pos (by omega), if_pos (by omega)]
    simp
/-- reading an own list -/
theorem ev_lenO {i : Nat} {l : Addr} {xs : List PyData} (hi : Γ[i]? = some (.own l xs)) (hk : k (.int xs.length)) : EvP K B G L Γ (tCB (fun xs H Q => ∃ p ys, xs = [.ref p] ∧ (SqL K H p ys ∨ SqT K H p ys) ∧ Q (.int ys.length) H) (tCons (tVar i) tNil)) k := fun σ H Q E q => by
  obtain ⟨e, vs, hl, dn⟩ := E.getO hi
  refine ⟨_, e, l, vs, rfl, .inl (.inl (.inl hl)), ?_⟩
  rw [dn.length]
  exact q _ _ H (Go.refl E) (.int _) hk
theorem ev_tupO {i : Nat} {l : Addr} {xs : List PyData} (hi : Γ[i]? = some (.own l xs)) (hk : k (.tuple xs)) :
    EvP K B G L Γ (tCB (fun xs H Q => ∃ p ys, xs = [.ref p] ∧ ((SqL K H p ys ∧ ∀ l, H l = none → Q (.ref l) (upd H l (.tup ys))) ∨ (SqT K H p ys ∧ Q (.ref p) H))) (tCons (tVar i) tNil)) k := fun σ H Q E q => by
  obtain ⟨e, vs, hl, dn⟩ := E.getO hi
  refine ⟨_, e, l, vs, rfl, .inl ⟨.inl (.inl hl), fun p hp => ?_⟩⟩
  have g2 := Go.new (o := .tup vs) E hp
  exact q _ _ _ g2 (.tup (.inl (.inl (hid_new (E.newM hp)))) (dn.mono g2.sm)) hk
/-- an own list is data from here on -/
theorem Env.freeze {i : Nat} {l : Addr} {L' : List Addr} {xs : List PyData} (E : Env K B G (l :: L') H σ Γ) (hn : l ∉ L') (hi : Γ[i]? = some (.own l xs)) : Env K B G L' H σ (Γ.set i (.d (.list xs))) := by
  have hs : Same (hid (l :: L' ++ B.M) H) (hid (L' ++ B.M) H) := hid_less H fun a h => List.mem_cons_of_mem _ h
  have lM : l ∉ L' ++ B.M := fun z => by
    rcases List.mem_append.mp z with z | z
    · exact hn z
    · obtain ⟨o, e⟩ := E.lm l z
      rw [(E.lo l (List.mem_cons_self ..)).1] at e; cases e
  have gt : ∀ (j : Nat) (s : Sl), (Γ.set i (.d (.list xs)))[j]? = some s → (j = i ∧ s = .d (.list xs) ∧ j < Γ.length) ∨ (j ≠ i ∧ Γ[j]? = some s) := fun j s hj => by
    by_cases e : j = i
    · subst e
      refine .inl ⟨rfl, ?_⟩
      by_cases hl : j < Γ.length
      · rw [List.getElem?_set_self hl] at hj
        exact ⟨(Option.some.inj hj).symm, hl⟩
      · rw [List.getElem?_eq_none (by rw [List.length_set]; omega)] at hj
        cases hj
    · rw [List.getElem?_set_ne (Ne.symm e)] at hj
      exact .inr ⟨e, hj⟩
  refine ⟨E.fr, E.ws, E.wm, E.lm, fun m hm => E.lo m (List.mem_cons_of_mem _ hm), by rw [List.length_set]; exact E.len, fun j s hj => ?_, fun p hp => (E.gh p hp).trans hs, fun j m zs hj => ?_, fun j k m zs ws hj hk => ?_, fun j w hj => ?_⟩
  · rcases gt j s hj with ⟨rfl, rfl, hj'⟩ | ⟨ne, hj'⟩
    · obtain ⟨e, vs, hl, dn⟩ := E.sl j _ hi
      exact ⟨_, e, .lst (by rw [hid_out lM]; exact hl) (dn.mono hs)⟩
    · have q := E.sl j s hj'
      cases s with
      | un => trivial
      | d x =>
        obtain ⟨v, e, dn⟩ := q
        exact ⟨v, e, dn.mono hs⟩
      | own m zs =>
        obtain ⟨e, ws, hm, dnm⟩ := q
        exact ⟨e, ws, hm, dnm.mono hs⟩
      | well w => exact q
      | raw v => exact q
  · rcases gt j _ hj with ⟨_, e, _⟩ | ⟨nj, hj⟩
    · cases e
    · rcases List.mem_cons.mp (E.ow j m zs hj) with z | z
      · subst z
        exact absurd (E.ou j i m zs xs hj hi) nj
      · exact z
  · rcases gt j _ hj with ⟨ej, e, _⟩ | ⟨nj, hj⟩
    · cases e
    · rcases gt k _ hk with ⟨ek, e', _⟩ | ⟨_, hk⟩
      · cases e'
      · exact E.ou j k m zs ws hj hk
  · rcases gt j _ hj with ⟨_, e, _⟩ | ⟨_, hj⟩
    · cases e
    · exact E.we j w hj
theorem st_freeze (i : Nat) {l : Addr} {L' : List Addr} {xs : List PyData} (hi : Γ[i]? = some (.own l xs)) (hn : l ∉ L') (h : StP K B G L' (Γ.set i (.d (.list xs))) t P) : StP K B G (l :: L') Γ t P := fun σ H D E M => h σ H D (E.freeze hn hi) M
end
end DL
namespace DL
open PySem PySem.Spec PyProof.Rows L2
section
variable {K : PySem.W.Frag} {B : Bs} {G : List Hp} {L : List Addr} {Γ : List Sl} {H H' H2 : Hp} {σ : L2.St}
variable {te ta tb tc tl : TE} {tt tu : TT} {tr : TA} {k : PyData → Prop} {x y : PyData} {P P' : PD} {t u : TS}

/-! ### loops -/
theorem Env.gpush (E : Env K B G L H σ Γ) : Env K B (hid (L ++ B.M) H :: G) L H σ Γ := ⟨E.fr, E.ws, E.wm, E.lm, E.lo, E.len, E.sl, fun g hg => by
  rcases List.mem_cons.mp hg with rfl | hg
  · exact Same.refl _
  · exact E.gh g hg, E.ow, E.ou, E.we⟩
theorem Env.gpop {g : Hp} (E : Env K B (g :: G) L H σ Γ) : Env K B G L H σ Γ := ⟨E.fr, E.ws, E.wm, E.lm, E.lo, E.len, E.sl, fun g' hg => E.gh g' (List.mem_cons_of_mem _ hg), E.ow, E.ou, E.we⟩
def PD.inLoop (P : PD) (I : List Addr → List Sl → Prop) : PD := { nx := I, ct := I, bk := P.nx, rt := P.rt }
/-- for x in (a list that is data | a tuple) -/
theorem st_forL {j : Nat} (h : EvP K B G L Γ tl fun d => ∃ ds, d = .list ds ∧ ∃ I : Nat → List Addr → List Sl → Prop, I 0 L Γ ∧
    (∀ i d' L' Γ' g, ds[i]? = some d' → I i L' Γ' → StP K B (g :: G) L' (Γ'.set j (.d d')) t (P.inLoop (I (i + 1)))) ∧ ∀ L' Γ', I ds.length L' Γ' → P.nx L' Γ') :
    StP K B G L Γ (tFor (iList K tl) (gName j) t) P := fun σ H D E M =>
  h σ H _ E fun v d H1 g1 dn ⟨ds, e, I, h0, hs, hd⟩ => by
    subst e
    cases dn with
    | @lst a xs _ e1 h2 =>
      have E1 := g1.env.gpush
      refine ⟨a, rfl, ⟨xs, .inl (.inl (hid_sub _ _ _ _ e1))⟩, for_list (xs := xs) (fun i σ' H' => ∃ L' Γ', I i L' Γ' ∧ Env K B (hid (L ++ B.M) H1 :: G) L' H' σ' Γ') ⟨L, Γ, h0, E1⟩ (fun i σ' H' _ ⟨L', Γ', _, E'⟩ => ?_) (fun i x σ' H' hi ⟨L', Γ', hI, E'⟩ => ?_) (fun σ' H' ⟨L', Γ', hI, E'⟩ => ?_)⟩
      · exact .inl (.inl (hid_sub _ _ _ _ (E'.gh _ (List.mem_cons_self ..) _ _ e1)))
      · obtain ⟨d', e', dn'⟩ := h2.getV hi
        refine hs i d' L' Γ' _ e' hI _ H' _ (E'.put j (dn'.mono (E'.gh _ (List.mem_cons_self ..)))) ⟨fun L2 Γ2 σ2 H2 q E2 => ⟨L2, Γ2, q, E2⟩, M.rt, fun L2 Γ2 σ2 H2 q E2 => M.nx _ _ _ _ q E2.gpop, fun L2 Γ2 σ2 H2 q E2 => ⟨L2, Γ2, q, E2⟩⟩
      · rw [h2.length] at hI
        exact M.nx _ _ _ _ (hd L' Γ' hI) E'.gpop
/-- while -/
theorem st_while (I : Nat → List Addr → List Sl → Prop) (m0 : Nat) (h0 : I m0 L Γ)
    (hs : ∀ m L' Γ', I m L' Γ' → EvT K B G L' Γ' tt fun b => (b = true → StP K B G L' Γ' t (P.inLoop fun L2 Γ2 => ∃ m', m' < m ∧ I m' L2 Γ2)) ∧ (b = false → P.nx L' Γ')) : StP K B G L Γ (tWhile tt t) P := fun σ H D E M =>
  ⟨fun m σ' H' => ∃ L' Γ', I m L' Γ' ∧ Env K B G L' H' σ' Γ', ⟨m0, L, Γ, h0, E⟩, fun m σ' H' ⟨L', Γ', hI, E'⟩ => hs m L' Γ' hI σ' H' _ E' fun b H1 g1 ⟨h1, h2⟩ => by
    cases b with
    | true =>
      refine iteT ⟨fun σ2 H2 => ∃ L2 Γ2, (∃ m', m' < m ∧ I m' L2 Γ2) ∧ Env K B G L2 H2 σ2 Γ2, fun σ2 H2 ⟨L2, Γ2, ⟨m', hm, hI2⟩, E2⟩ => ⟨m', hm, L2, Γ2, hI2, E2⟩, ?_⟩
      exact h1 rfl σ' H1 _ g1.env ⟨fun L2 Γ2 σ2 H2 q E2 => ⟨L2, Γ2, q, E2⟩, M.rt, M.nx, fun L2 Γ2 σ2 H2 q E2 => ⟨L2, Γ2, q, E2⟩⟩
    | false => exact iteF (M.nx _ _ _ _ (h2 rfl) g1.env)⟩

/-! ### comprehensions -/
/-- one more list of one's own, no name's -/
theorem Env.temp {l : Addr} {vs : List V} (E : Env K B G L H σ Γ) (g : Go K B G L Γ H H' σ) (hl : H l = none) (h : H' l = some (.lst vs)) : Env K B G (l :: L) H' σ Γ := by
  have E' := g.env
  have hkeep := g.keepL E hl
  refine ⟨E'.fr, E'.ws, E'.wm, E'.lm, fun m hm => ?_, E'.len, fun j s hj => ?_, fun p hp => (E.gh p hp).trans hkeep, fun j m xs hj => List.mem_cons_of_mem _ (E'.ow j m xs hj), E'.ou, E'.we⟩
  · rcases List.mem_cons.mp hm with rfl | hm
    · refine ⟨?_, _, h⟩
      cases e : B.H m with
      | none => rfl
      | some o =>
        exfalso
        by_cases w : m ∈ B.Ws
        · obtain ⟨_, _, _, q, _⟩ := E.ws m w
          rw [hl] at q; cases q
        · have q := E.fr m o w e
          rw [hl] at q; cases q
    · exact E'.lo m hm
  · have q := E.sl j s hj
    cases s with
    | un => trivial
    | d x =>
      obtain ⟨v, e, dn⟩ := q
      exact ⟨v, e, dn.mono hkeep⟩
    | own m xs =>
      obtain ⟨e, ws, hm, dnm⟩ := q
      exact ⟨e, ws, g.kp m (E.ow j m xs hj) _ hm, dnm.mono hkeep⟩
    | well w => exact q
    | raw v => exact q
def wipeG (Γ : List Sl) : List Nat → List Sl
  | [] => Γ
  | v :: vs => (wipeG Γ vs).set v .un
theorem Env.set_un (E : Env K B G L H σ Γ) (i : Nat) : Env K B G L H (σ.set i none) (Γ.set i .un) := by
  have E2 := E.weak i
  refine ⟨E2.fr, E2.ws, E2.wm, E2.lm, E2.lo, by rw [List.length_set]; exact E2.len, fun j s hj => ?_, E2.gh, E2.ow, E2.ou, E2.we⟩
  by_cases e : j = i
  · subst e
    have : s = .un := by
      by_cases hl : j < Γ.length
      · rw [List.getElem?_set_self hl] at hj
        exact (Option.some.inj hj).symm
      · rw [List.getElem?_eq_none (by rw [List.length_set]; omega)] at hj
        cases hj
    subst this
    trivial
  · rw [List.getElem?_set_ne (Ne.symm e)]
    exact E2.sl j s hj
theorem Env.wipe (E : Env K B G L H σ Γ) : ∀ vs : List Nat, Env K B G L H (L2.wipe σ vs) (wipeG Γ vs)
  | [] => E
  | v :: vs => (Env.wipe E vs).set_un v
/-- a comprehension's turns: J says what is made of the first turns -/
def CompOk (K : PySem.W.Frag) (B : Bs) (G : List Hp) (L : List Addr) (Γ : List Sl) (j : Nat) (tt : TT) (te : TE) (vs : List Nat) (n : Nat) (item : Nat → PyData → Prop) (J : Nat → List PyData → Prop) : Prop :=
  J 0 [] ∧ ∀ i D d' acc, item i d' → J i acc → i < n → EvT K B G (D :: L) ((wipeG Γ vs).set j (.d d')) tt fun b =>
    (b = true → EvP K B G (D :: L) ((wipeG Γ vs).set j (.d d')) te fun y => J (i + 1) (acc ++ [y])) ∧ (b = false → J (i + 1) acc)
/-- the heap and the list so far -/
structure Sofar (K : PySem.W.Frag) (B : Bs) (L : List Addr) (H1 H' : Hp) (D : Addr) (i : Nat) (J : Nat → List PyData → Prop) : Prop where
  rl : ∀ a o, a ∉ B.Ws → H1 a = some o → H' a = some o
  ws : ∀ w ∈ B.Ws, WellAt H' w
  it : ∃ accV acc, J i acc ∧ acc.length ≤ i ∧ H' D = some (.lst accV) ∧ DnA K (hid (D :: (L ++ B.M)) H') accV acc
theorem Go.of_rel (E : Env K B G L H σ Γ) (h1 : ∀ a o, a ∉ B.Ws → H a = some o → H' a = some o) (h2 : ∀ w ∈ B.Ws, WellAt H' w) : Go K B G L Γ H H' σ := Go.step E h1 h2
theorem comp_turn {j n : Nat} {vs : List Nat} {item : Nat → PyData → Prop} {J : Nat → List PyData → Prop} {H1 : Hp} {D : Addr} {i : Nat} {x : V} {d' : PyData} (E1 : Env K B G L H1 σ Γ) (hD : H1 D = none) (C : CompOk K B G L Γ j tt te vs n item J) (hn : n ≤ 100000)
    (S : Sofar K B L H1 H' D i J) (hi : item i d') (hin : i < n) (dn : Dn K (hid (L ++ B.M) H1) x d') :
    tt ((L2.wipe σ vs).set j (some x)) H' fun b H3 => if b = true then te ((L2.wipe σ vs).set j (some x)) H3 fun y H4 => ∃ acc, H4 D = some (.lst acc) ∧ acc.length < sizeLine ∧ Sofar K B L H1 (upd H4 D (.lst (acc ++ [y]))) D (i + 1) J else Sofar K B L H1 H3 D (i + 1) J := by
  obtain ⟨rl, ws, accV, acc, hJ, hlen, hDl, dA⟩ := S
  have g0 : Go K B G L Γ H1 H' σ := Go.of_rel E1 rl ws
  have ET := Env.temp E1 g0 hD hDl
  have hk0 : Same (hid (L ++ B.M) H1) (hid (D :: L ++ B.M) H') := g0.keepL E1 hD
  have EW := (ET.wipe vs).put j (dn.mono hk0)
  refine C.2 i D d' acc hi hJ hin _ H' _ EW fun b H3 g3 ⟨c1, c2⟩ => ?_
  have D3 : H3 D = some (.lst accV) := g3.kp D (List.mem_cons_self ..) _ hDl
  cases b with
  | false =>
    refine iteF ⟨fun a o w e => g3.rl a o w (rl a o w e), g3.env.ws, accV, acc, c2 rfl, by omega, D3, dA.mono g3.sm⟩
  | true =>
    refine iteT (c1 rfl _ H3 _ g3.env fun y d H4 g4 dy hJ' => ?_)
    have D4 : H4 D = some (.lst accV) := g4.kp D (List.mem_cons_self ..) _ D3
    refine ⟨accV, D4, ?_, ?_⟩
    · rw [dA.length]
      exact Nat.lt_of_le_of_lt hlen (Nat.lt_of_lt_of_le (Nat.lt_of_lt_of_le hin hn) (by decide))
    · have hs : Same (hid (D :: (L ++ B.M)) H4) (hid (D :: (L ++ B.M)) (upd H4 D (.lst (accV ++ [y])))) := fun a o e => by
        obtain ⟨q, e⟩ := hid_some e
        rw [hid_out q, upd_ne (fun z => q (by rw [z]; exact List.mem_cons_self ..))]
        exact e
      have dW : D ∉ B.Ws := fun w => by
        obtain ⟨_, _, _, q, _⟩ := E1.ws D w
        rw [hD] at q; cases q
      refine ⟨fun a o w e => ?_, fun w hw => ?_, accV ++ [y], acc ++ [d], hJ', by rw [List.length_append]; exact Nat.succ_le_succ hlen, upd_same, ?_⟩
      · rw [upd_ne (ne_of_none e hD)]
        exact g4.rl a o w (g3.rl a o w (rl a o w e))
      · obtain ⟨n, b, c, e, q⟩ := g4.env.ws w hw
        exact ⟨n, b, c, by rw [upd_ne (fun (z : w = D) => dW (by rw [← z]; exact hw))]; exact e, q⟩
      · exact ((dA.mono g3.sm).mono g4.sm |>.append (.cons dy .nil)).mono hs
theorem en_lcT {j : Nat} {vs : List Nat} {kl : List PyData → Prop} (hw : ∀ (σ : L2.St) x, L2.wipe ((L2.wipe σ vs).set j (some x)) vs = L2.wipe σ vs)
    (h : EvP K B G L Γ tl fun d => ∃ ds, d = .tuple ds ∧ ds.length ≤ 100000 ∧ ∃ J, CompOk K B G L Γ j tt te vs ds.length (fun i d' => ds[i]? = some d') J ∧ ∀ acc, J ds.length acc → kl acc) :
    EvN K B G L Γ (tLc (iTup K tl) (gName j) tt te vs) kl := fun σ H Q E q =>
  h σ H _ E fun v d H1 g1 dn ⟨ds, e, hl, J, C, hk⟩ => by
    subst e
    cases dn with
    | @tup a xs _ e1 h2 =>
      refine ⟨a, rfl, ⟨xs, Same.sqt (hid_sub _ _) e1⟩, fun D hD => lc_tup (xs := xs) (fun i H' => Sofar K B L H1 H' D i J)
        ⟨fun a o w e => same_upd hD a o e, fun w hw => ?_, [], [], C.1, Nat.le_refl _, upd_same, .nil⟩ (fun i H' _ S => ?_) (fun i x H' hi S => ?_) (fun H' S => ?_)⟩
      · obtain ⟨n, b, c, e, q⟩ := g1.env.ws w hw
        exact ⟨n, b, c, same_upd hD _ _ e, q⟩
      · have g0 : Go K B G L Γ H1 H' σ := Go.of_rel g1.env S.rl S.ws
        exact Same.sqt (hid_sub _ _) (Same.sqt g0.sm e1)
      · obtain ⟨d', e', dn'⟩ := h2.getV hi
        exact ⟨hw σ x, comp_turn g1.env hD C hl S e' (List.getElem?_eq_some_iff.mp e').1 dn'⟩
      · have g0 : Go K B G L Γ H1 H' σ := Go.of_rel g1.env S.rl S.ws
        obtain ⟨accV, acc, hJ, _, e, dA⟩ := S.it
        rw [h2.length] at hJ
        exact q D accV acc H' (g1.trans g0) (Go.fresh E g1 hD) e dA (hk acc hJ)
theorem en_lcL {j : Nat} {vs : List Nat} {kl : List PyData → Prop} (hw : ∀ (σ : L2.St) x, L2.wipe ((L2.wipe σ vs).set j (some x)) vs = L2.wipe σ vs)
    (h : EvP K B G L Γ tl fun d => ∃ ds, d = .list ds ∧ ds.length ≤ 100000 ∧ ∃ J, CompOk K B G L Γ j tt te vs ds.length (fun i d' => ds[i]? = some d') J ∧ ∀ acc, J ds.length acc → kl acc) :
    EvN K B G L Γ (tLc (iList K tl) (gName j) tt te vs) kl := fun σ H Q E q =>
  h σ H _ E fun v d H1 g1 dn ⟨ds, e, hl, J, C, hk⟩ => by
    subst e
    cases dn with
    | @lst a xs _ e1 h2 =>
      refine ⟨a, rfl, ⟨xs, .inl (.inl (hid_sub _ _ _ _ e1))⟩, fun D hD => lc_list (xs := xs) (fun i H' => Sofar K B L H1 H' D i J)
        ⟨fun a o w e => same_upd hD a o e, fun w hw => ?_, [], [], C.1, Nat.le_refl _, upd_same, .nil⟩ (fun i H' _ S => ?_) (fun i x H' hi S => ?_) (fun H' S => ?_)⟩
      · obtain ⟨n, b, c, e, q⟩ := g1.env.ws w hw
        exact ⟨n, b, c, same_upd hD _ _ e, q⟩
      · have g0 : Go K B G L Γ H1 H' σ := Go.of_rel g1.env S.rl S.ws
        exact .inl (.inl (hid_sub _ _ _ _ (g0.sm _ _ e1)))
      · obtain ⟨d', e', dn'⟩ := h2.getV hi
        exact ⟨hw σ x, comp_turn g1.env hD C hl S e' (List.getElem?_eq_some_iff.mp e').1 dn'⟩
      · have g0 : Go K B G L Γ H1 H' σ := Go.of_rel g1.env S.rl S.ws
        obtain ⟨accV, acc, hJ, _, e, dA⟩ := S.it
        rw [h2.length] at hJ
        exact q D accV acc H' (g1.trans g0) (Go.fresh E g1 hD) e dA (hk acc hJ)
theorem et_yes {kb : Bool → Prop} (h : kb true) : EvT K B G L Γ tYes kb := fun σ H Q E q => q true H (Go.refl E) h

/-! ### defs -/
/-- a def that changes nothing -/
def SpP (K : PySem.W.Frag) (pre : List PyData → Prop) (post : List PyData → PyData → Prop) : Sp := fun vs H Q _ => ∃ M ds, (∀ m ∈ M, ∃ o, H m = some o) ∧ DnA K (hid M H) vs ds ∧ pre ds ∧
  ∀ v d H', Same H H' → Dn K (hid M H') v d → post ds d → Q v H'
/-- a def that draws from the well, its first argument -/
def SpW (K : PySem.W.Frag) (pre : List PyData → Prop) (post : List PyData → PyData → Prop) : Sp := fun vs H Q _ => ∃ M w vs' ds, vs = .ref w :: vs' ∧ w ∈ M ∧ WellAt H w ∧ (∀ m ∈ M, ∃ o, H m = some o) ∧ DnA K (hid M H) vs' ds ∧ pre ds ∧
  ∀ v d H', (∀ a o, a ≠ w → H a = some o → H' a = some o) → WellAt H' w → Dn K (hid M H') v d → post ds d → Q v H'
theorem ev_callP {pre : List PyData → Prop} {post : List PyData → PyData → Prop} {E0 : XK} (h : EvA K B G L Γ tr fun ds => pre ds ∧ ∀ d, post ds d → k d) : EvP K B G L Γ (tCall (SpP K pre post) [] E0 tr) k := fun σ H Q E q =>
  h σ H _ E fun vs ds H1 g1 dn ⟨hp, hk⟩ => by
    rw [List.append_nil]
    refine ⟨L ++ B.M, ds, g1.env.alive, dn, hp, fun v d H' hs dv hpost => ?_⟩
    have g2 := Go.step g1.env (H' := H') (fun a o _ e => hs a o e) fun w hw => by
      obtain ⟨n, b, c, e, q⟩ := g1.env.ws w hw
      exact ⟨n, b, c, hs _ _ e, q⟩
    exact q v d H' (g1.trans g2) dv (hk d hpost)
theorem ev_callW {i : Nat} {w : Addr} {pre : List PyData → Prop} {post : List PyData → PyData → Prop} {E0 : XK} (hi : Γ[i]? = some (.well w)) (h : EvA K B G L Γ tr fun ds => pre ds ∧ ∀ d, post ds d → k d) : EvP K B G L Γ (tCall (SpW K pre post) [] E0 (tCons (tVar i) tr)) k := fun σ H Q E q =>
  ⟨_, E.getW hi, h σ H _ E fun vs ds H1 g1 dn ⟨hp, hk⟩ => by
    show SpW K pre post ((V.ref w :: vs) ++ []) H1 Q E0
    rw [List.append_nil]
    have hw := g1.env.we i w hi
    refine ⟨L ++ B.M, w, vs, ds, rfl, List.mem_append_right _ (g1.env.wm w hw), g1.env.ws w hw, g1.env.alive, dn, hp, fun v d H' hs hW dv hpost => ?_⟩
    have g2 := Go.step g1.env (H' := H') (fun a o wn e => hs a o (fun z => wn (by rw [z]; exact hw)) e) fun w' hw' => by
      by_cases z : w' = w
      · rw [z]; exact hW
      · obtain ⟨n, b, c, e, q⟩ := g1.env.ws w' hw'
        exact ⟨n, b, c, hs _ _ z e, q⟩
    exact q v d H' (g1.trans g2) dv (hk d hpost)⟩
def slots (N : List Str) (ds : List PyData) : List Sl := ds.map Sl.d ++ List.replicate (N.length - ds.length) .un
theorem slotok_start (K : PySem.W.Frag) (M : List Addr) (H : Hp) (r : Nat) {vs : List V} {ds : List PyData} (dn : DnA K (hid M H) vs ds) : ∀ (i : Nat) (s : Sl), (ds.map Sl.d ++ List.replicate r Sl.un)[i]? = some s → SlotOk K M H ((vs.map some ++ List.replicate r none)[i]?.join) s := fun i s hi => by
  have hl := dn.length
  by_cases h : i < ds.length
  · rw [List.getElem?_append_left (by simpa using h)] at hi
    rw [List.getElem?_append_left (by simpa [hl] using h)]
    rw [List.getElem?_map, List.getElem?_eq_getElem h] at hi
    obtain ⟨v, e, dv⟩ := dn.get (List.getElem?_eq_getElem h)
    rw [List.getElem?_map, e]
    cases hi
    exact ⟨v, rfl, dv⟩
  · rw [List.getElem?_append_right (by simpa using h), List.getElem?_replicate] at hi
    split at hi
    · cases hi
      trivial
    · cases hi
/-- from a promise to its body -/
theorem body_P {pre : List PyData → Prop} {post : List PyData → PyData → Prop} {N : List Str} {vs : List V} {Q : VK} {E : XK} (h : SpP K pre post vs H Q E)
    (hb : ∀ (B : Bs) (ds : List PyData), B.Ws = [] → pre ds → StP K B [] [] (slots N ds) t { nx := fun _ _ => post ds .none, rt := post ds }) : t { nx := fun _ H' => Q .non H', rt := Q } (L2.start N vs) H := by
  obtain ⟨M, ds, lm, dn, hp, q⟩ := h
  have E0 : Env K ⟨M, [], H⟩ [] [] H (L2.start N vs) (slots N ds) := by
    refine ⟨fun _ _ _ e => e, fun w hw => (by cases hw), fun w hw => (by cases hw), lm, fun l hl => (by cases hl), ?_, ?_, fun g hg => (by cases hg), ?_, ?_, ?_⟩
    · unfold L2.start slots
      simp [dn.length]
    · unfold L2.start slots
      rw [dn.length]
      exact slotok_start K _ H _ dn
    · intro i l xs hi
      exfalso
      unfold slots at hi
      rcases List.mem_append.mp (List.mem_of_getElem? hi) with z | z
      · obtain ⟨d, _, e⟩ := List.mem_map.mp z
        cases e
      · cases (List.eq_of_mem_replicate z)
    · intro i j l xs ys hi hj
      exfalso
      unfold slots at hi
      rcases List.mem_append.mp (List.mem_of_getElem? hi) with z | z
      · obtain ⟨d, _, e⟩ := List.mem_map.mp z
        cases e
      · cases (List.eq_of_mem_replicate z)
    · intro i w hi
      exfalso
      unfold slots at hi
      rcases List.mem_append.mp (List.mem_of_getElem? hi) with z | z
      · obtain ⟨d, _, e⟩ := List.mem_map.mp z
        cases e
      · cases (List.eq_of_mem_replicate z)
  exact hb _ ds rfl hp _ _ _ E0 ⟨fun L Γ σ H' hq E' => q _ _ H' (fun a o e => E'.fr a o (by simp) e) .non hq, fun v d H' hq o dn => q v d H' (fun a o' e => o.fr a o' (by simp) e) dn hq, fun _ _ _ _ z => z.elim, fun _ _ _ _ z => z.elim⟩
theorem body_W {pre : List PyData → Prop} {post : List PyData → PyData → Prop} {N : List Str} {vs : List V} {Q : VK} {E : XK} (h : SpW K pre post vs H Q E) (hN : N ≠ [])
    (hb : ∀ (B : Bs) (w : Addr) (ds : List PyData), pre ds → StP K B [] [] (.well w :: slots N.tail ds) t { nx := fun _ _ => post ds .none, rt := post ds }) : t { nx := fun _ H' => Q .non H', rt := Q } (L2.start N vs) H := by
  obtain ⟨M, w, vs', ds, rfl, wM, hW, lm, dn, hp, q⟩ := h
  obtain ⟨n0, N', rfl⟩ : ∃ n0 N', N = n0 :: N' := by
    cases N with
    | nil => exact absurd rfl hN
    | cons a b => exact ⟨a, b, rfl⟩
  have e0 : L2.start (n0 :: N') (.ref w :: vs') = some (.ref w) :: (vs'.map some ++ List.replicate (N'.length - vs'.length) none) := by
    unfold L2.start
    simp
  have E0 : Env K ⟨M, [w], H⟩ [] [] H (L2.start (n0 :: N') (.ref w :: vs')) (.well w :: slots N' ds) := by
    rw [e0]
    refine ⟨fun _ _ _ e => e, fun w' hw => ?_, fun w' hw => ?_, lm, fun l hl => (by cases hl), ?_, ?_, fun g hg => (by cases hg), ?_, ?_, ?_⟩
    · rw [List.mem_singleton.mp hw]; exact hW
    · rw [List.mem_singleton.mp hw]; exact wM
    · unfold slots
      simp [dn.length]
    · intro i s hi
      cases i with
      | zero =>
        cases hi
        rfl
      | succ i =>
        have hi' : (slots N' ds)[i]? = some s := by simpa using hi
        have := slotok_start K ([] ++ M) H (N'.length - ds.length) dn i s hi'
        rw [← dn.length] at this
        simpa using this
    · intro i l xs hi
      exfalso
      cases i with
      | zero => cases hi
      | succ i =>
        have hi' : (slots N' ds)[i]? = some (.own l xs) := by simpa using hi
        unfold slots at hi'
        rcases List.mem_append.mp (List.mem_of_getElem? hi') with z | z
        · obtain ⟨d, _, e⟩ := List.mem_map.mp z
          cases e
        · cases (List.eq_of_mem_replicate z)
    · intro i j l xs ys hi hj
      exfalso
      cases i with
      | zero => cases hi
      | succ i =>
        have hi' : (slots N' ds)[i]? = some (.own l xs) := by simpa using hi
        unfold slots at hi'
        rcases List.mem_append.mp (List.mem_of_getElem? hi') with z | z
        · obtain ⟨d, _, e⟩ := List.mem_map.mp z
          cases e
        · cases (List.eq_of_mem_replicate z)
    · intro i w' hi
      cases i with
      | zero =>
        cases hi
        exact List.mem_singleton.mpr rfl
      | succ i =>
        exfalso
        have hi' : (slots N' ds)[i]? = some (.well w') := by simpa using hi
        unfold slots at hi'
        rcases List.mem_append.mp (List.mem_of_getElem? hi') with z | z
        · obtain ⟨d, _, e⟩ := List.mem_map.mp z
          cases e
        · cases (List.eq_of_mem_replicate z)
  exact hb _ w ds hp _ _ _ E0 ⟨fun L Γ σ H' hq E' => q _ _ H' (fun a o ne e => E'.fr a o (fun z => ne (List.mem_singleton.mp z)) e) (E'.ws w (List.mem_singleton.mpr rfl)) .non hq,
    fun v d H' hq o dn => q v d H' (fun a o' ne e => o.fr a o' (fun z => ne (List.mem_singleton.mp z)) e) (o.ws w (List.mem_singleton.mpr rfl)) dn hq, fun _ _ _ _ z => z.elim, fun _ _ _ _ z => z.elim⟩
end
end DL
namespace PySem.HT
open PySem PySem.Spec PyProof.Rows
section
variable {prog : Program} {w : World} {A : Around} {E : Value → Shared → Prop} {s : Shared}
end
end PySem.HT
namespace DL
open PySem PySem.Spec PyProof.Rows L2
section
variable {X : Cx}
/-! ### more rules -/
theorem op_or {f : Value → Value → Sem Value} {r r' : R2} (h : OpR X f r) (h' : OpR X f r') : OpR X f (fun x y H Q => r x y H Q ∨ r' x y H Q) := fun pins s σ H x y v u Q I rx ry q => by
  rcases q with q | q
  · exact h pins s σ H x y v u Q I rx ry q
  · exact h' pins s σ H x y v u Q I rx ry q
def rAddA (K : PySem.W.Frag) : R2 := fun x y H Q => rI0 (fun i j => .int (i + j)) x y H Q ∨ (rCatA K x y H Q ∨ rCat x y H Q)
theorem op_addA : OpR X (binaryOp .Add) (rAddA X.K) := op_or op_add (op_or op_catA op_cat)
def rMulA (K : PySem.W.Frag) : R2 := fun x y H Q => rI CMul (fun i j => .int (i * j)) x y H Q ∨ (rI CMulW (fun i j => .int (i * j)) x y H Q ∨ (rRep x y H Q ∨ rRepT K x y H Q))
theorem op_mulA : OpR X (binaryOp .Mult) (rMulA X.K) := op_or op_mul (op_or op_mulW (op_or op_rep op_repT))
def rFdA : R2 := fun x y H Q => rI CDiv (fun i j => .int (i / j)) x y H Q ∨ (rI CDivW (fun i j => .int (i / j)) x y H Q ∨ rI CDivN (fun i j => .int (i.fdiv j)) x y H Q)
theorem op_fdA : OpR X (binaryOp .FloorDiv) rFdA := op_or op_fdiv (op_or op_fdivW op_fdivN)
def rModA : R2 := fun x y H Q => rI (fun _ j => 0 < j) (fun i j => .int (i % j)) x y H Q ∨ rI (fun _ j => j ≠ 0) (fun i j => .int (i.fmod j)) x y H Q
theorem op_modA : OpR X (binaryOp .Mod) rModA := op_or op_mod op_modN
def rSlX2 (K : PySem.W.Frag) : V → Option Int → Option Int → Hp → VK → Prop := fun x lo hi H Q => rSlA K x lo hi H Q ∨ rSlL K x lo hi H Q
theorem sl_any : SlR X (rSlX2 X.K) := sl_tupA.or sl_list
/-! f(k = v, ..), all parameters by name, in their order -/
def gK (us ws : List Value) : List Value := match us with
  | [] => ws
  | _ => []
def gKV (vs zs : List V) : List V := match vs with
  | [] => zs
  | _ => []
def tCallK0 (sp : Sp) (E : XK) (tk : TA) : TE := fun σ H Q => tk σ H fun zs H1 => sp zs H1 Q E
variable {x : Str} {p pos : Pos} {k : Nat} {f : Addr} {fd : FuncData} {ps ks : List Str} {sp : Sp} {CX : CXT} {E : XK} {tk : TA} {kws : List Keyword}
theorem pe_callK0 (F : FnOk X.prog X.w X.K X.mg X.base CX k f fd ps sp) (hr : Room k X.A) (hg : Gl X x) (hm : X.mg x = some (.ref f)) (hk : PySem.W.keepIn X.K (.ref f) = true) (hb : KBinds X.K fd ps ks gK gKV) (hx : Passes CX X E)
    (hkw : PK X kws tk) (hall : (backToKw pos (keywordEach kws X.env)).all (·.1.isSome) = true := by rfl) (hks : (backToKw pos (keywordEach kws X.env)).filterMap (·.1) = ks := by rfl)
    (hdb : (x == ("__debug__" : Str)) = false := by decide)
    (hpl : ((backTo pos (starEach [] X.env)).any (·.1) || (backToKw pos (keywordEach kws X.env)).any (·.1.isNone)) = false := by rfl) :
    PE X (.Call (.Name x p) [] kws pos) (tCallK0 sp E tk) := by
  refine ⟨fun pins s σ H Q I h => ?_⟩
  refine wpAny_Call_Name_kw (ld_glob I hg hm ?_ hdb)
  refine PySem.W.callWith_KW0 (h₀ := X.base) I.ok.mod.kin hk hall ?_ hpl
  refine thn (hkw.run pos pins s σ H _ I h) fun ws s2 ⟨zs, H2, I2, rz, q2⟩ => ⟨I2.kIn, ?_⟩
  rw [hks]
  exact run_fnk (us := []) (vs := []) F hr hb hx I2 .nil rz q2
end
theorem Fun.kbinds {K : PySem.W.Frag} {x qual : Str} {st : Stmt} {f : Addr} {fd : FuncData} {ps : List Str} (F : Fun K x qual st f fd) (hne : ps ≠ [])
    (h : ∀ (kV doc pm : Value) (an : Option Addr) (cdv ct : Value) (ws : List Value), ws.length = ps.length → bindArgs (PySem.W.fnOf x qual (defArgs st) (defBody st) (defScope st) .none kV doc pm an cdv ct) ⟨[], ps.zip ws⟩ = pure (ps.zip ws)) : KBinds K fd ps ps gK gKV := by
  obtain ⟨oc, od, kV, doc, pm, an, cdv, ct, osl, rfl, lk, hcd⟩ := F.ex
  refine ⟨fun s us ws _ hl => ?_, fun {vs us zs ws} r rz => ?_⟩
  · cases us with
    | nil => exact BindsTo.of_eq (h kV doc pm an cdv ct ws hl)
    | cons a b =>
      exfalso
      cases ps with
      | nil => exact hne rfl
      | cons c d => cases hl
  · cases r with
    | nil => exact rz
    | cons a b => exact .nil

section
variable {K : PySem.W.Frag} {B : Bs} {G : List Hp} {L : List Addr} {Γ : List Sl} {H H' H2 : Hp} {σ : L2.St}
variable {te ta tb tc tl : TE} {tt tu : TT} {tr : TA} {k : PyData → Prop} {x y : PyData} {P P' : PD} {t u : TS}
theorem ev_callK0 {pre : List PyData → Prop} {post : List PyData → PyData → Prop} {E0 : XK} (h : EvA K B G L Γ tr fun ds => pre ds ∧ ∀ d, post ds d → k d) : EvP K B G L Γ (tCallK0 (SpP K pre post) E0 tr) k := fun σ H Q E q =>
  h σ H _ E fun vs ds H1 g1 dn ⟨hp, hk⟩ => by
    refine ⟨L ++ B.M, ds, g1.env.alive, dn, hp, fun v d H' hs dv hpost => ?_⟩
    have g2 := Go.step g1.env (H' := H') (fun a o _ e => hs a o e) fun w hw => by
      obtain ⟨n, b, c, e, q⟩ := g1.env.ws w hw
      exact ⟨n, b, c, hs _ _ e, q⟩
    exact q v d H' (g1.trans g2) dv (hk d hpost)
theorem ROk.l {r r' : R2} (h : ROk K B G L Γ r x y k) : ROk K B G L Γ (fun x y H Q => r x y H Q ∨ r' x y H Q) x y k := fun σ H Q v u E d1 d2 q => .inl (h σ H Q v u E d1 d2 q)
theorem ROk.r {r r' : R2} (h : ROk K B G L Γ r' x y k) : ROk K B G L Γ (fun x y H Q => r x y H Q ∨ r' x y H Q) x y k := fun σ H Q v u E d1 d2 q => .inr (h σ H Q v u E d1 d2 q)
theorem ro_add {i j : Int} (hk : k (.int (i + j))) : ROk K B G L Γ (rAddA K) (.int i) (.int j) k := ROk.l (rok_i0 hk)
theorem ro_catT {ds es : List PyData} (hl : ds.length + es.length ≤ 1000000) (hk : k (.tuple (ds ++ es))) : ROk K B G L Γ (rAddA K) (.tuple ds) (.tuple es) k := ROk.r (ROk.l (rok_catT hl hk))
theorem ro_catL {ds es : List PyData} (hl : ds.length + es.length ≤ 1000000) (hk : k (.list (ds ++ es))) : ROk K B G L Γ (rAddA K) (.list ds) (.list es) k := ROk.r (ROk.r (rok_catL hl hk))
theorem ro_mul {i j : Int} (hc : CMul i j) (hk : k (.int (i * j))) : ROk K B G L Γ (rMulA K) (.int i) (.int j) k := ROk.l (rok_i hc hk)
theorem ro_mulW {i j : Int} (hc : CMulW i j) (hk : k (.int (i * j))) : ROk K B G L Γ (rMulA K) (.int i) (.int j) k := ROk.r (ROk.l (rok_i hc hk))
theorem ro_repL {ds : List PyData} {n : Int} (h0 : 0 ≤ n) (h1 : n ≤ 100000) (hl : ds.length * n.toNat ≤ 1000000) (hk : k (.list (List.replicate n.toNat ds).flatten)) : ROk K B G L Γ (rMulA K) (.list ds) (.int n) k := ROk.r (ROk.r (ROk.l (rok_repL h0 h1 hl hk)))
theorem ro_fd {i j : Int} (hc : 0 < j ∧ j < 1073741824) (hk : k (.int (i / j))) : ROk K B G L Γ rFdA (.int i) (.int j) k := ROk.l (rok_i hc hk)
theorem ro_fdW {i j : Int} (hc : CDivW i j) (hk : k (.int (i / j))) : ROk K B G L Γ rFdA (.int i) (.int j) k := ROk.r (ROk.l (rok_i hc hk))
theorem ro_mod {i j : Int} (hc : 0 < j) (hk : k (.int (i % j))) : ROk K B G L Γ rModA (.int i) (.int j) k := ROk.l (rok_i (C := fun _ j => 0 < j) hc hk)
theorem so_tup {ds : List PyData} {lo hi : Option Int} (hk : k (.tuple (cutD ds lo hi))) : SOk K B G L Γ (rSlX2 K) (.tuple ds) lo hi k := fun σ H Q v E d1 q => .inl (sok_tup hk σ H Q v E d1 q)
theorem so_lst {ds : List PyData} {lo hi : Option Int} (hk : k (.list (cutD ds lo hi))) : SOk K B G L Γ (rSlX2 K) (.list ds) lo hi k := fun σ H Q v E d1 q => .inr (sok_lst hk σ H Q v E d1 q)
/-- divmod, its pair unpacked into a place of the well and a name: not general -/
theorem ev_dict (hk : k (.dict [])) : EvP K B G L Γ (fun (_ : L2.St) H Q => ∀ d, H d = none → Q (.ref d) (upd H d (.dK []))) k := fun σ H Q E q d hd => by
  have g := Go.new (o := .dK []) E hd
  exact q _ _ _ g (.emp (hid_new (E.newM hd)) ⟨fun _ => rfl, fun _ => rfl⟩) hk
/-- a test by None -/
def isNoneD : PyData → Bool
  | .none => true
  | _ => false
theorem ev_isN (h : EvP K B G L Γ te fun d => k (.bool (isNoneD d))) : EvP K B G L Γ (tIsN te) k := fun σ H Q E q =>
  h σ H _ E fun v d H1 g1 dn hk => by
    have e : decide (v = V.non) = isNoneD d := by cases dn <;> simp [isNoneD]
    show Q (.bl (decide (v = V.non))) H1
    rw [e]
    exact q _ _ H1 g1 (.bl _) hk
end
end DL
namespace DL
open PySem PySem.Spec PyProof.Rows L2
/-! ### names for the built-ins' readings -/
def rAbsQ : List V → Hp → VK → Prop := fun xs H Q => ∃ i, xs = [.int i] ∧ Q (.int (if i < 0 then -i else i)) H
def rIntQ : List V → Hp → VK → Prop := fun xs H Q => (∃ i, xs = [.int i] ∧ Q (.int i) H) ∨ ∃ k, xs = [.bl k] ∧ Q (.int (if k then 1 else 0)) H
def rListQ (K : PySem.W.Frag) : List V → Hp → VK → Prop := fun xs H Q => ∃ p ys, xs = [.ref p] ∧ (SqL K H p ys ∨ SqT K H p ys) ∧ ∀ l, H l = none → Q (.ref l) (upd H l (.lst ys))
def rTupleQ (K : PySem.W.Frag) : List V → Hp → VK → Prop := fun xs H Q => ∃ p ys, xs = [.ref p] ∧ ((SqL K H p ys ∧ ∀ l, H l = none → Q (.ref l) (upd H l (.tup ys))) ∨ (SqT K H p ys ∧ Q (.ref p) H))
def rDivmodQ : List V → Hp → VK → Prop := fun xs H Q => ∃ i j, xs = [.int i, .int j] ∧ CDivP i j ∧ ∀ p, H p = none → Q (.ref p) (upd H p (.tup [.int (i / j), .int (i % j)]))
def rMax2Q : List V → Hp → VK → Prop := fun xs H Q => ∃ i j, xs = [.int i, .int j] ∧ Q (.int (if j > i then j else i)) H
def rMin2Q : List V → Hp → VK → Prop := fun xs H Q => ∃ i j, xs = [.int i, .int j] ∧ Q (.int (if j < i then j else i)) H
section
variable {K : PySem.W.Frag} {B : Bs} {G : List Hp} {L : List Addr} {Γ : List Sl} {H H' H2 : Hp} {σ : L2.St}
variable {te ta tb tc tl : TE} {tt tu : TT} {tr : TA} {k : PyData → Prop} {x y : PyData} {P P' : PD} {t u : TS}
theorem co_lenT {ds : List PyData} (hk : k (.int ds.length)) : COk K B G L Γ (rLenQ K) [.tuple ds] k := cok_lenT hk
theorem co_lenL {ds : List PyData} (hk : k (.int ds.length)) : COk K B G L Γ (rLenQ K) [.list ds] k := cok_lenL hk
theorem co_abs {i : Int} (hk : k (.int (if i < 0 then -i else i))) : COk K B G L Γ rAbsQ [.int i] k := cok_abs hk
theorem co_int {i : Int} (hk : k (.int i)) : COk K B G L Γ rIntQ [.int i] k := cok_intI hk
theorem co_tupL {ds : List PyData} (hk : k (.tuple ds)) : COk K B G L Γ (rTupleQ K) [.list ds] k := cok_tupL hk
theorem ev_tupOwn {i : Nat} {l : Addr} {xs : List PyData} (hi : Γ[i]? = some (.own l xs)) (hk : k (.tuple xs)) : EvP K B G L Γ (tCB (rTupleQ K) (tCons (tVar i) tNil)) k := ev_tupO hi hk
theorem ev_lenOwn {i : Nat} {l : Addr} {xs : List PyData} (hi : Γ[i]? = some (.own l xs)) (hk : k (.int xs.length)) : EvP K B G L Γ (tCB (rLenQ K) (tCons (tVar i) tNil)) k := ev_lenO hi hk
theorem en_listQ {kl : List PyData → Prop} (h : EvP K B G L Γ te fun d => ∃ ds, (d = .tuple ds ∨ d = .list ds) ∧ kl ds) : EvN K B G L Γ (tCB (rListQ K) (tCons te tNil)) kl := en_list h
/-- an item of the well -/
theorem ev_well {i : Nat} {w : Addr} (hi : Γ[i]? = some (.well w)) (h : EvP K B G L Γ tb fun n => ∃ j, n = .int j ∧ (j = 0 ∨ j = 1 ∨ j = 2) ∧ ∀ n : Int, (j = 0 → 0 ≤ n) → (j = 1 → 0 ≤ n ∧ n < 1099511627776) → k (.int n)) : EvP K B G L Γ (tOp (rIx K) (tVar i) tb) k := fun σ H Q E q =>
  ⟨_, E.getW hi, h σ H _ E fun u n H2 g2 dn2 ⟨j, en, hj, hk⟩ => by
    subst en
    obtain ⟨a, b, c, e, h0, h1, h2⟩ := g2.env.ws w (g2.env.we i w hi)
    have z : u = .int j := dn_int dn2
    rcases hj with rfl | rfl | rfl
    · exact .inl ⟨w, _, 0, .int a, rfl, z, .inl (.inl e), rfl, q _ _ H2 g2 (.int a) (hk a (fun _ => h0) (by omega))⟩
    · exact .inl ⟨w, _, 1, .int b, rfl, z, .inl (.inl e), rfl, q _ _ H2 g2 (.int b) (hk b (by omega) (fun _ => ⟨h1, h2⟩))⟩
    · exact .inl ⟨w, _, 2, .int c, rfl, z, .inl (.inl e), rfl, q _ _ H2 g2 (.int c) (hk c (by omega) (by omega))⟩⟩
/-- the well changed in one place -/
theorem Env.stir {w : Addr} {vs : List V} (E : Env K B G L H σ Γ) (hw : w ∈ B.Ws) (h : WellAt (upd H w (.lst vs)) w) : Env K B G L (upd H w (.lst vs)) σ Γ := by
  refine (E.step (fun a o wn e => ?_) fun w' hw' => ?_).1
  · rw [upd_ne (fun (z : a = w) => wn (by rw [z]; exact hw))]
    exact e
  · by_cases z : w' = w
    · rw [z]; exact h
    · obtain ⟨n, b, c, e, q⟩ := E.ws w' hw'
      exact ⟨n, b, c, by rw [upd_ne z]; exact e, q⟩
/-- well[j] = e -/
theorem st_setWell {i : Nat} {w : Addr} (hi : Γ[i]? = some (.well w)) (h : EvP K B G L Γ te fun d => EvP K B G L Γ tb fun n => ∃ z j : Int, d = .int z ∧ n = .int j ∧ (j = 0 ∨ j = 1 ∨ j = 2) ∧ (j = 0 → 0 ≤ z) ∧ (j = 1 → 0 ≤ z ∧ z < 1099511627776) ∧ P.nx L Γ) :
    StP K B G L Γ (tAsg te (gSub (tVar i) tb rSetL)) P := fun σ H D E M =>
  h σ H _ E fun v d H1 g1 dn1 h2 => ⟨_, g1.env.getW hi, h2 σ H1 _ g1.env fun u n H2 g2 dn2 ⟨z, j, ed, en, hj, hz0, hz1, hk⟩ => by
    subst ed en
    have ev : v = .int z := dn_int dn1
    have eu : u = .int j := dn_int dn2
    have hw := g2.env.we i w hi
    obtain ⟨a, b, c, e, h0, h1, h2⟩ := g2.env.ws w hw
    rcases hj with rfl | rfl | rfl
    · refine ⟨w, _, 0, 0, rfl, eu, e, rfl, M.nx _ _ _ _ hk (g2.env.stir hw ?_)⟩
      subst ev
      exact ⟨z, b, c, upd_same, hz0 rfl, h1, h2⟩
    · refine ⟨w, _, 1, 1, rfl, eu, e, rfl, M.nx _ _ _ _ hk (g2.env.stir hw ?_)⟩
      subst ev
      exact ⟨a, z, c, upd_same, h0, (hz1 rfl).1, (hz1 rfl).2⟩
    · refine ⟨w, _, 2, 2, rfl, eu, e, rfl, M.nx _ _ _ _ hk (g2.env.stir hw ?_)⟩
      subst ev
      exact ⟨a, b, z, upd_same, h0, h1, h2⟩⟩
/-- well[0], x = divmod(well[0], m) -/
theorem st_dmWell {i n : Nat} {w : Addr} (hi : Γ[i]? = some (.well w)) (h : EvA K B G L Γ tr fun ds => ∃ z m : Int, ds = [.int z, .int m] ∧ 0 ≤ z ∧ 0 < m ∧ m < 1073741824 ∧ P.nx L (Γ.set n (.d (.int (z % m))))) :
    StP K B G L Γ (tAsg (tCB rDivmodQ tr) (gTup K 2 (gCons (gSub (tVar i) (tC (.int 0)) rSetL) (gCons (gName n) gNil)))) P := fun σ H D E M =>
  h σ H _ E fun vs ds H1 g1 dn ⟨z, m, e, hz, hm, hm2, hk⟩ => by
    subst e
    cases dn with
    | cons d1 d2 =>
      cases d2 with
      | cons d2 d3 =>
        cases d3
        cases d1
        cases d2
        refine ⟨z, m, rfl, ⟨hm, PyProof.noPylong_small (by omega)⟩, fun p hp => ?_⟩
        have g2 := Go.new (o := .tup [.int (z / m), .int (z % m)]) g1.env hp
        have hw := g2.env.we i w hi
        obtain ⟨a, b, c, e, h0, h1, h2⟩ := g2.env.ws w hw
        refine ⟨p, _, rfl, .inl (.inl upd_same), rfl, _, _, rfl, ⟨_, g2.env.getW hi, w, _, 0, 0, rfl, rfl, e, rfl, _, _, rfl, rfl, ?_⟩⟩
        refine M.nx _ _ _ _ hk ((g2.env.stir hw ⟨z / m, b, c, upd_same, Int.ediv_nonneg hz (Int.le_of_lt hm), h1, h2⟩).put n (.int _))
/-- a < b < c -/
theorem ev_chain {r r' : R2} (h : EvP K B G L Γ ta fun x => EvP K B G L Γ tb fun y => ROk K B G L Γ r x y fun z => ∃ b, z = .bool b ∧ (b = true → EvP K B G L Γ tc fun w => ROk K B G L Γ r' y w k) ∧ (b = false → k (.bool false))) : EvP K B G L Γ (tChain r r' ta tb tc) k := fun σ H Q E q =>
  h σ H _ E fun v x H1 g1 dn1 h1 => h1 σ H1 _ g1.env fun u y H2 g2 dn2 h2 => h2 σ H2 _ v u g2.env (dn1.mono g2.sm) dn2 fun z d H3 g3 dn3 ⟨b, e, c1, c2⟩ => by
    subst e
    refine ⟨b, dn_bool dn3, ?_⟩
    cases b with
    | true => exact iteT (c1 rfl σ H3 _ g3.env fun w' d4 H4 g4 dn4 h4 => h4 σ H4 Q u w' g4.env ((dn2.mono g3.sm).mono g4.sm) dn4 fun z d H5 g5 dn5 hk => q z d H5 ((((g1.trans g2).trans g3).trans g4).trans g5) dn5 hk)
    | false => exact iteF (q _ _ H3 ((g1.trans g2).trans g3) (.bl false) (c2 rfl))
theorem ev_dictD (hk : k (.dict [])) : EvP K B G L Γ tDNewK k := ev_dict hk
end
end DL
namespace DL
open PySem PySem.Spec PyProof.Rows L2
theorem len_P {K : PySem.W.Frag} {pre : List PyData → Prop} {post : List PyData → PyData → Prop} {vs : List V} {H : Hp} {Q : VK} {E : XK} (h : SpP K pre post vs H Q E) {n : Nat} (hn : ∀ ds, pre ds → ds.length = n) : vs.length = n := by
  obtain ⟨M, ds, _, dn, hp, _⟩ := h
  rw [dn.length, hn ds hp]
theorem len_W {K : PySem.W.Frag} {pre : List PyData → Prop} {post : List PyData → PyData → Prop} {vs : List V} {H : Hp} {Q : VK} {E : XK} (h : SpW K pre post vs H Q E) {n : Nat} (hn : ∀ ds, pre ds → ds.length = n) : vs.length = n + 1 := by
  obtain ⟨M, w, vs', ds, rfl, _, _, _, dn, hp, _⟩ := h
  rw [List.length_cons, dn.length, hn ds hp]
theorem wipe1 (i : Nat) : ∀ (σ : L2.St) (x : V), L2.wipe ((L2.wipe σ [i]).set i (some x)) [i] = L2.wipe σ [i] := fun σ x => by
  show (((σ.set i none).set i (some x)).set i none) = σ.set i none
  rw [List.set_set, List.set_set]
end DL
namespace DL
open PySem PySem.Spec PyProof.Rows L2
def isIntT : PyData → Bool
  | .int _ => true
  | .bool _ => true
  | _ => false
def isBoolT : PyData → Bool
  | .bool _ => true
  | _ => false
def isTupT : PyData → Bool
  | .tuple _ => true
  | _ => false
theorem kit_int (d : PyData) : kitB (tyD d) "int" = some (isIntT d) := by
  cases d <;> (simp only [tyD, isIntT]; decide +kernel)
theorem kit_bool (d : PyData) : kitB (tyD d) "bool" = some (isBoolT d) := by
  cases d <;> (simp only [tyD, isBoolT]; decide +kernel)
theorem kit_tup (d : PyData) : kitB (tyD d) "tuple" = some (isTupT d) := by
  cases d <;> (simp only [tyD, isTupT]; decide +kernel)
section
variable {K : PySem.W.Frag} {B : Bs} {G : List Hp} {L : List Addr} {Γ : List Sl} {te : TE} {k : PyData → Prop}
theorem ev_isiInt (h : EvP K B G L Γ te fun d => k (.bool (isIntT d))) : EvP K B G L Γ (tCB (rIsi K) (tCons te (tCons (tC (.ty "int")) tNil))) k := ev_isi (h.mono fun d hk => ⟨_, kit_int d, hk⟩)
theorem ev_isiBool (h : EvP K B G L Γ te fun d => k (.bool (isBoolT d))) : EvP K B G L Γ (tCB (rIsi K) (tCons te (tCons (tC (.ty "bool")) tNil))) k := ev_isi (h.mono fun d hk => ⟨_, kit_bool d, hk⟩)
theorem ev_isiTup (h : EvP K B G L Γ te fun d => k (.bool (isTupT d))) : EvP K B G L Γ (tCB (rIsi K) (tCons te (tCons (tC (.ty "tuple")) tNil))) k := ev_isi (h.mono fun d hk => ⟨_, kit_tup d, hk⟩)
theorem isTupT_true {d : PyData} (h : isTupT d = true) : ∃ xs, d = .tuple xs := by
  cases d <;> simp [isTupT] at h
  exact ⟨_, rfl⟩
end
end DL
namespace DL
open PySem PySem.Spec PyProof.Rows L2
section
variable {K : PySem.W.Frag} {B : Bs} {G : List Hp} {L : List Addr} {Γ : List Sl} {te : TE} {P : PD}
end
end DL

namespace DL
open PySem
theorem sz_and {n : Nat} {p : Prop} (h : n ≤ 1000000) (hp : p) : n ≤ 1000000 ∧ p := ⟨h, hp⟩
end DL

namespace DL
open PySem L2
section
variable {K : PySem.W.Frag} {B : Bs} {G : List Hp} {L : List Addr} {Γ : List Sl} {k : PyData → Prop}
theorem ro_mulL {i j : Int} (h0 : -18446744073709551616 < i) (h1 : i < 18446744073709551616) (hk : k (.int (i * j))) : ROk K B G L Γ (rMulA K) (.int i) (.int j) k := ro_mul (Or.inl ⟨h0, h1⟩) hk
end
end DL
/-! enumerate over a tuple -/
namespace PySem
open Sem (wp)
open AutoSeq1 (wpAny_loadPart')
namespace EnT
section
variable {prog : Program} {w : World} {A : Around} {E : Value → Shared → Prop} {s : Shared}
end
end EnT
end PySem
namespace DL
open PySem PySem.Spec PyProof.Rows L2
section
variable {K : PySem.W.Frag} {B : Bs} {G : List Hp} {L : List Addr} {Γ : List Sl} {H : Hp} {σ : L2.St} {ta : TA} {P : PD} {t : TS}
end
end DL
/-! Defs that show values by repr: where they run, nothing else is being shown. -/
namespace DL
open PySem PySem.Spec PyProof.Rows L2

/-- a def's promise where no container is being shown -/
structure FnG (P : Program) (w : World) (K : PySem.W.Frag) (mg : Str → Option Value) (base : Heap) (k : Nat) (f : Addr) (fd : FuncData) (ps : List Str) (sp : Sp) : Prop where
  len : ∀ vs H Q E, sp vs H Q E → vs.length = ps.length
  go : ∀ (B : Around) (fs : List PySem.Env) (t : Shared) (H : Hp) (gs : Args) (us : List Value) (vs : List V) (Q : VK) (E : XK),
    B.guards = some [] → Room k B → Env0 P w K mg base B fs t H → BindsTo t fd gs (ps.zip us) → Vals vs us → sp vs H Q E →
      codeAny (model P w) B (.call (.ref f) gs) (CR CX0 fs P w H t Q E) t

section
variable {P : Program} {w : World} {K : PySem.W.Frag} {mg : Str → Option Value} {base : Heap}

theorem Fun.okG {x qual : Str} {st : Stmt} {f : Addr} {fd : FuncData} {N ps : List Str} {k : Nat} {sp : Sp} (F : Fun K x qual st f fd) (S : FnScope N ps (defScope st))
    (len : ∀ vs H Q E, sp vs H Q E → vs.length = ps.length)
    (body : ∀ (cd : Value) (B : Around) (fs : List PySem.Env) (t : Shared) (H : Hp) (vs : List V) (Q : VK) (E : XK),
      (B.deeper (envOfC qual (defScope st) t.heap.objs.size f cd)).guards = some [] →
      Room k (B.deeper (envOfC qual (defScope st) t.heap.objs.size f cd)) → sp vs H Q E →
      ∃ r, PSs (cxOf CX0 P w K mg base N qual (defScope st) f cd B fs t H E).nox (defBody st) r ∧ r { nx := fun _ H' => Q .non H', rt := Q } (start N vs) H) :
    FnG P w K mg base (k + 1) f fd ps sp := by
  obtain ⟨oc, od, kV, doc, pm, an, cd, ct, osl, rfl, lk, hcd⟩ := F.ex
  refine ⟨len, ?_⟩
  intro B fs t H gs us vs Q E hg room e0 bt rv hsp
  have hl : vs.length = ps.length := len _ _ _ _ hsp
  have KT : K.In t.heap := e0.mod.kin.keeps fun b o e => (e0.bs b o e).1
  have nl : t.heap.NoLimit := e0.mod.nolimit.keeps fun b o e => (e0.bs b o e).1
  refine codeAny_call_function room.depth (KT _ _ lk) rfl S.co S.gen rfl (PySem.W.codeRec_of KT hcd) (bt _ _ _ _ ?_)
  refine wpAny_newFunctionEnv_cells S.kind (fun ⟨n, v⟩ hy => (S.par n (List.of_mem_zip hy).1).imp id fun q => ⟨q, PySem.W.cellsFrom_some _ _ _ (.inl q)⟩) ?_
  rintro env rfl t1 ic
  refine ⟨nl.keeps ic.toInCall.keep, codeAny_func ?_⟩
  obtain ⟨r, hr, hq⟩ := body cd B fs t H vs Q E hg (room.deeper _) hsp
  have I1 := inv_start (CX := CX0) (E := E) S room.hd e0 hl rv ic
  have go := hr.nox.run [] t1 (start N vs) H _ I1 hq
  refine wpAny_mono go ?_ fun _ _ z => z
  intro fl t2 ends
  rcases fl with _ | _ | _ | u
  · obtain ⟨σ2, H2, J, q⟩ := ends
    exact ⟨.non, H2, J.os, J.bare, J.base, J.hok, rfl, q⟩
  · obtain ⟨_, _, _, z⟩ := ends
    exact z.elim
  · obtain ⟨_, _, _, z⟩ := ends
    exact z.elim
  · obtain ⟨v, σ2, H2, J, ru, q⟩ := ends
    exact ⟨v, H2, J.os, J.bare, J.base, J.hok, ru, q⟩
end

/-! ### calls of such defs -/
section
variable {X : Cx} {k : Nat} {f : Addr} {fd : FuncData} {ps : List Str} {sp : Sp} {E : XK} {x : Str} {p pos : Pos} {e : Expr} {es : List Expr} {t : TA}
theorem pe_callG (F : FnG X.prog X.w X.K X.mg X.base k f fd ps sp) (room : Room k X.A) (gd : X.A.guards = some []) (gx : Gl X x) (mx : X.mg x = some (.ref f)) (kf : PySem.W.keepIn X.K (.ref f) = true) (bd : Binds X.K fd ps [])
    (ea : PA X (e :: es) t) (nd : (x == ("__debug__" : Str)) = false := by decide) (st : starEach (e :: es) X.env = (false, eval e X.env) :: starEach es X.env := by rfl)
    (pl : (backTo pos (starEach es X.env)).any (·.1) = false := by rfl) : PE X (.Call (.Name x p) (e :: es) [] pos) (tCall sp [] E t) := by
  constructor
  intro pins s σ H Q I tq
  refine wpAny_Call_Name_kw (ld_glob I gx mx (PySem.W.callWith_K (h₀ := X.base) I.ok.mod.kin kf (thn (ea.run pos pins s σ H _ I tq) ?_) st pl) nd)
  rintro us s1 ⟨vs, H1, I1, rv, q⟩
  refine ⟨I1.kIn, ?_⟩
  rw [List.append_nil] at q
  have hl : (us ++ []).length = ps.length := by
    rw [List.append_nil, ← rv.length]
    exact F.len _ _ _ _ q
  have bt := bd s1 us I1.kIn hl
  rw [List.append_nil] at bt
  refine wpAny_call (codeAny_mono (F.go X.A X.stack s1 H1 ⟨us, []⟩ us vs Q E gd room I1.env0 bt rv q) ?_)
  intro r s2 hr
  match r, hr with
  | .error _, hr => exact hr.elim
  | .ok (.ret u), hr => exact I1.after hr
  | .ok .next, hr => exact hr.elim
  | .ok .brk, hr => exact hr.elim
  | .ok .cont, hr => exact hr.elim
end

/-! ### repr -/
mutual
/-- how long a text can be -/
def cost : PyData → Nat
  | .list xs => costAll xs + 3
  | .tuple xs => costAll xs + 3
  | .str x => (reprText x).length
  | .dict _ => 0
  | _ => 1921
def costAll : List PyData → Nat
  | [] => 0
  | x :: xs => cost x + 2 + costAll xs
end
mutual
theorem shown_le : ∀ {d : PyData}, d.showable = true → d.hasDict = false → d.shown.length ≤ cost d
  | .none, _, _ => by decide
  | .bool true, _, _ => by decide
  | .bool false, _, _ => by decide
  | .int i, h, _ => by
    simp only [PyData.showable, decide_eq_true_eq] at h
    simp only [PyData.shown, cost]
    exact int_text_len_1921 h
  | .str x, _, _ => by simp only [PyData.shown, cost]; exact Nat.le_refl _
  | .list xs, h, h2 => by
    simp only [PyData.showable] at h
    simp only [PyData.hasDict] at h2
    have := shownAll_le h h2
    simp only [PyData.shown, cost]
    have := listText_len_le (PyData.shownAll xs)
    omega
  | .tuple xs, h, h2 => by
    simp only [PyData.showable] at h
    simp only [PyData.hasDict] at h2
    have := shownAll_le h h2
    simp only [PyData.shown, cost]
    have := tupleText_len_le (PyData.shownAll xs)
    omega
  | .dict _, _, h => by simp [PyData.hasDict] at h
theorem shownAll_le : ∀ {ds : List PyData}, PyData.showableAll ds = true → PyData.hasDictAll ds = false → ((PyData.shownAll ds).map (·.length)).sum + 2 * (PyData.shownAll ds).length ≤ costAll ds
  | [], _, _ => by simp [PyData.shownAll, costAll]
  | d :: ds, h, h2 => by
    simp only [PyData.showableAll, Bool.and_eq_true] at h
    simp only [PyData.hasDictAll, Bool.or_eq_false_iff] at h2
    have a := shown_le h.1 h2.1
    have b := shownAll_le h.2 h2.2
    simp only [PyData.shownAll, costAll, List.map_cons, List.sum_cons, List.length_cons]
    omega
end
mutual
theorem Dn.dp {K : PySem.W.Frag} {H : Hp} : ∀ {v : V} {d : PyData}, Dn K H v d → d.hasDict = false → Dp K H v d
  | _, _, .non, _ => .non
  | _, _, .bl b, _ => .bl b
  | _, _, .int i, _ => .int i
  | _, _, .str x, _ => .str x
  | _, _, .lst h1 h2, h => .lst (.inl (.inl h1)) (DnA.dp h2 (by simpa only [PyData.hasDict] using h))
  | _, _, .tup h1 h2, h => .tup h1 (DnA.dp h2 (by simpa only [PyData.hasDict] using h))
  | _, _, .emp _ _, h => by simp [PyData.hasDict] at h
theorem DnA.dp {K : PySem.W.Frag} {H : Hp} : ∀ {vs : List V} {ds : List PyData}, DnA K H vs ds → PyData.hasDictAll ds = false → DpAll K H vs ds
  | _, _, .nil, _ => .nil
  | _, _, .cons h1 h2, h => by
    simp only [PyData.hasDictAll, Bool.or_eq_false_iff] at h
    exact .cons (Dn.dp h1 h.1) (DnA.dp h2 h.2)
end
def rReprD (K : PySem.W.Frag) : List V → Hp → VK → Prop := fun xs H Q => ∃ (a : Addr) (d : PyData), xs = [.ref a] ∧ Dp K H (.ref a) d ∧ d.showable = true ∧ d.hasDict = false ∧ d.depth < 64 ∧ cost d ≤ sizeLine ∧ Q (.str d.shown) H
theorem call_reprD {X : Cx} (hu : X.A.units + 64 < cLine) (gd : X.A.guards = some []) : CallR X (.builtin "repr") (rReprD X.K) := by
  rintro pins s σ H xs us Q I r ⟨a, d, rfl, dp, sh, nd, dd, cz, q⟩
  obtain ⟨u, rfl, ru⟩ := vals1 r
  obtain rfl : u = Value.ref a := ru
  obtain ⟨as, rd⟩ := Dp.reads I d _ _ dp rfl
  refine repr_of_reads' rd sh (fun z => by rw [nd] at z; cases z) gd (by omega) (fun b o e => e) (fun h' u tk hk => ?_) (Nat.le_trans (shown_le sh nd) cz)
  exact ⟨.str d.shown, H, I.kept hk, ⟨_, rfl⟩, q⟩
section
variable {K : PySem.W.Frag} {B : Bs} {G : List Hp} {L : List Addr} {Γ : List Sl} {k : PyData → Prop}
def isBox : PyData → Bool
  | .list _ => true
  | .tuple _ => true
  | _ => false
theorem cok_repr {d : PyData} (hb : isBox d = true) (sh : d.showable = true) (nd : d.hasDict = false) (dd : d.depth < 64) (cz : cost d ≤ sizeLine) (hk : k (.str d.shown)) : COk K B G L Γ (rReprD K) [d] k := fun σ H Q vs E d1 q => by
  cases d1 with
  | cons h1 h2 =>
    cases h2
    have dp := Dn.dp (h1.mono (hid_sub _ _)) nd
    have go := q (.str d.shown) _ H (Go.refl E) (.str _) hk
    cases h1 with
    | lst _ _ => exact ⟨_, _, rfl, dp, sh, nd, dd, cz, go⟩
    | tup _ _ => exact ⟨_, _, rfl, dp, sh, nd, dd, cz, go⟩
    | _ => cases hb
end

/-! ### the head -/
/-- the script as the only thing that is tracked, where it is not the module's own -/
def scr (K : PySem.W.Frag) (a : Addr) (o : Obj) (xs : List V) : Hp := fun b => if b = a ∧ (K.lookup a).isNone = true then some (.frz o (.lst xs)) else none
theorem scr_some {K : PySem.W.Frag} {a b : Addr} {o : Obj} {xs : List V} {u : HO} (h : scr K a o xs b = some u) : b = a ∧ K.lookup a = none ∧ u = .frz o (.lst xs) := by
  unfold scr at h
  by_cases c : b = a ∧ (K.lookup a).isNone = true
  · rw [if_pos c] at h
    exact ⟨c.1, by simpa using c.2, (Option.some.inj h).symm⟩
  · rw [if_neg c] at h
    cases h
theorem scr_none {K : PySem.W.Frag} {a b : Addr} {o : Obj} {xs : List V} (h : b = a → K.lookup a ≠ none) : scr K a o xs b = none := by
  cases e : scr K a o xs b with
  | none => rfl
  | some u =>
    obtain ⟨h1, h2, _⟩ := scr_some e
    exact absurd h2 (h h1)

theorem law_callG {P : Program} {w : World} {K : PySem.W.Frag} {mg mb : Str → Option Value} {k : Nat} {f a : Addr} {fd : FuncData} {x : Str} {sp : Sp} {t : Shared} {vs : List Value} {ns : List Int}
    (inK : K.In t.heap) (gl : t.heap.Ns mainGlobals mg) (bl : t.heap.Ns builtinsNs mb) (bb : ∀ x : Str, x ≠ "__name__" → mb x = bootBuiltins x) (nl : t.heap.NoLimit) (ng : t.gens = #[])
    (at_ : t.heap.get? a = some { cls := .type "list", data := .seq vs.toArray }) (ia : IntsAre vs ns) (sz : ns.length ≤ sizeLine) (room : Room k callerA)
    (F : ∀ base : Heap, K.In base → base.Ns mainGlobals mg → FnG P w K mg base k f fd [x] sp) (bind : ∀ (s : Shared) (u : Value), BindsTo s fd ⟨[u], []⟩ [(x, u)])
    (hsp : ∀ H : Hp, SqL K H a (ns.map V.int) → sp [.ref a] H (fun v _ => v = .bl true) fun _ _ _ => False) :
    codeAny (model P w) callerA (.call (.ref f) ⟨[.ref a], []⟩) (fun r s' => r = .ok (.ret (.bool true)) ∧ OldK t.heap s'.heap ∧ s'.os = t.os ∧ AllBare s'.gens) t := by
  have rv : Vals (ns.map V.int) vs := vals_ints ia
  have zs : (ns.map V.int).length ≤ sizeLine := by rw [List.length_map]; exact sz
  let o : Obj := { cls := .type "list", data := .seq vs.toArray }
  let H : Hp := scr K a o (ns.map V.int)
  have onlyA : ∀ {b : Addr} {u : HO}, H b = some u → b = a ∧ K.lookup a = none ∧ u = .frz o (.lst (ns.map V.int)) := fun e => scr_some e
  have ok : HOk P w H t.heap := by
    intro b u e
    obtain ⟨e1, _, e2⟩ := onlyA e
    rw [e1, e2]
    exact ⟨at_, zs, vs, _, rv, at_⟩
  have sq : SqL K H a (ns.map V.int) := by
    cases q : K.lookup a with
    | none => exact .inl (.inr ⟨o, if_pos ⟨rfl, by rw [q]; rfl⟩⟩)
    | some o1 =>
      have e1 := inK a o1 q
      rw [at_] at e1
      cases e1
      exact .inr ⟨_, vs.toArray, _, q, rfl, rfl, rfl, by rw [List.size_toArray, ia.length]; exact sz, by simpa using rv⟩
  have kept : ∀ {b : Addr} {ob : Obj}, t.heap.get? b = some ob → H b = none → (hidT t.heap H).get? b = some ob := fun e n => hidT_get e n
  have nsB : ∀ {b : Addr} {m : Str → Option Value}, t.heap.Ns b m → (hidT t.heap H).Ns b m := by
    rintro b m ⟨ob, es, ep, e, d, r⟩
    refine ⟨ob, es, ep, kept e (scr_none fun z => ?_), d, r⟩
    subst z
    rw [at_] at e
    cases e
    cases d
  have kB : K.In (hidT t.heap H) := fun b ob e => kept (inK b ob e) (scr_none fun z => by
    subst z
    rw [show K.lookup b = some ob from e]
    exact fun z => nomatch z)
  obtain ⟨mc, l1, l2⟩ := nl
  have M : Mod K mg (hidT t.heap H) := ⟨kB, nsB gl, ⟨mb, nsB bl, bb⟩, ⟨mc, nsB l1, l2⟩⟩
  have e0 : Env0 P w K mg (hidT t.heap H) callerA [] t H :=
    ⟨rfl, M, fun b ob e => of_hidT e, Nat.le_of_eq (hidT_size _ _), trivial, fun b hb => absurd (show b ∈ ([] : List Addr) from hb) (by simp), ok, .of_eq ng⟩
  have run := (F _ kB (nsB gl)).go callerA [] t H ⟨[.ref a], []⟩ [.ref a] [.ref a] _ _ rfl room e0 (bind t (.ref a)) (.cons rfl .nil) (hsp H sq)
  refine codeAny_mono run ?_
  intro r s2 hr
  match r, hr with
  | .error _, hr => exact hr.elim
  | .ok .next, hr => exact hr.elim
  | .ok .brk, hr => exact hr.elim
  | .ok .cont, hr => exact hr.elim
  | .ok (.ret u), hr =>
    obtain ⟨v, H2, os, bare, un, ok2, ru, q⟩ := hr
    obtain rfl : v = V.bl true := q
    obtain rfl : u = Value.bool true := ru
    refine ⟨rfl, OldK.of_keep ?_, os, bare⟩
    intro b ob e
    cases c : H b with
    | none => exact un.keep b ob e c (by intro z; exact absurd (show b ∈ ([] : List Addr) from z) (by simp)) (by simp)
    | some u =>
      obtain ⟨e1, _, e2⟩ := onlyA c
      rw [e2] at c
      obtain ⟨g, _⟩ := ok2 b _ (un.frzs b o _ c)
      rw [e1] at e g
      rw [at_] at e
      cases e
      rw [e1]
      exact g
theorem walk_ofG {l : PySem.W.OpenLaw} {n k : Nat} {q : Program} {loose : List Str} {XP : (Str → Option Value) → Heap → Prop} {YP : World → Heap → Prop} {d : DefRec} {K : Params → PySem.W.Frag} {sp : PySem.W.Frag → Sp} {x : Str}
    (hn : l.most = some n) (small : n ≤ sizeLine) (nodf : d.params.defaults = []) (room : Room k callerA) (hY : ∀ (w : World) (h : Heap), YP w h → (K w.params).In h)
    (F : ∀ (w : World) (mg : Str → Option Value) (f : Addr) (h : Heap), (K w.params).In h → h.Ns mainGlobals mg → mg d.name = some (.ref f) →
      ∃ fd : FuncData, (∀ (s : Shared) (u : Value), BindsTo s fd ⟨[u], []⟩ [(x, u)]) ∧ ∀ base : Heap, (K w.params).In base → base.Ns mainGlobals mg → FnG l.prog w (K w.params) mg base k f fd [x] (sp (K w.params)))
    (hsp : ∀ (K : PySem.W.Frag) (H : Hp) (a : Addr) (ns : List Int), ns.length ≤ n → SqL K H a (ns.map V.int) → sp K [.ref a] H (fun v _ => v = .bl true) fun _ _ _ => False) :
    PySem.W.WalkO q loose XP YP l.row.toRowW d [] (fun f vs => PySem.call f vs) := by
  refine Att.attach_call hn nodf ?_
  intro w s₀ t mg mb f o pm cd doc a vs ns G Y ho hd hcd hmg hobj hints hlen ng
  have inK : (K w.params).In t.heap := hY w _ Y
  obtain ⟨fd, bind, FG⟩ := F w mg f _ inK G.T.g hmg
  exact law_callG inK G.T.g G.T.b G.T.builtins G.T.nolimit ng hobj hints (Nat.le_trans hlen small) room FG bind fun H hS => hsp _ H a ns hlen hS
end DL
/-! More words over data: xs[i] op= e, extend, pop, several new lists at once, max, comparing rows. -/
namespace DL
open PySem PySem.Spec PyProof.Rows L2

/-! ### a list's item, by value -/
section
variable {K : PySem.W.Frag} {B : Bs} {G : List Hp} {L : List Addr} {Γ : List Sl} {H H' H2 : Hp} {σ : L2.St}
variable {te ta tb tc : TE} {tt tu : TT} {tr : TA} {k : PyData → Prop} {x y : PyData} {P P' : PD} {t u : TS}
/-- a, b = two new lists -/
theorem st_parOO {i j : Nat} (h : EvN K B G L Γ ta fun xs => ∀ l1 : Addr, EvN K B G (l1 :: L) Γ tb fun ys => ∀ l2 : Addr, l1 ≠ l2 → P.nx (l2 :: l1 :: L) ((Γ.set i (.own l1 xs)).set j (.own l2 ys))) : StP K B G L Γ (tPar i j (tCons ta (tCons tb tNil))) P := fun σ H D E M =>
  h σ H _ E fun p vs xs H1 g1 hp hv dv h2 => h2 p σ H1 _ (Env.temp E g1 hp hv) fun q ws ys H2 g2 hq hw dw hk => by
    have hpq : p ≠ q := ne_of_none hv hq
    have E1 := Env.take E g1 hp hv i dv
    have g3 := Go.step E1 g2.rl g2.env.ws
    have E2 := Env.take E1 g3 hq hw j dw
    exact ⟨_, _, rfl, M.nx _ _ _ _ (hk q hpq) E2⟩
theorem co_max {i j : Int} (hk : k (.int (if j > i then j else i))) : COk K B G L Γ rMax2Q [.int i, .int j] k := fun σ H Q vs E d1 q => by
  cases d1 with
  | cons h1 h2 =>
    cases h2 with
    | cons h2 h3 =>
      cases h3
      cases h1
      cases h2
      exact ⟨i, j, rfl, q _ _ H (Go.refl E) (.int _) hk⟩
theorem co_min {i j : Int} (hk : k (.int (if j < i then j else i))) : COk K B G L Γ rMin2Q [.int i, .int j] k := fun σ H Q vs E d1 q => by
  cases d1 with
  | cons h1 h2 =>
    cases h2 with
    | cons h2 h3 =>
      cases h3
      cases h1
      cases h2
      exact ⟨i, j, rfl, q _ _ H (Go.refl E) (.int _) hk⟩
/-- comparing rows of numbers and tuples of such -/
theorem rok_eqD {x y : PyData} (nx : x.hasDict = false) (ny : y.hasDict = false) (sx : SeqAt.shaped x = true) (sy : SeqAt.shaped y = true) (hk : k (.bool (PyData.eqv x y))) : ROk K B G L Γ (rEqD K) x y k := fun σ H Q v u E d1 d2 q =>
  ⟨x, y, Dn.dp (d1.mono (hid_sub _ _)) nx, Dn.dp (d2.mono (hid_sub _ _)) ny, sx, sy, q _ _ H (Go.refl E) (.bl _) hk⟩
theorem rok_neD {x y : PyData} (nx : x.hasDict = false) (ny : y.hasDict = false) (sx : SeqAt.shaped x = true) (sy : SeqAt.shaped y = true) (hk : k (.bool (!PyData.eqv x y))) : ROk K B G L Γ (rNeD K) x y k := fun σ H Q v u E d1 d2 q =>
  ⟨x, y, Dn.dp (d1.mono (hid_sub _ _)) nx, Dn.dp (d2.mono (hid_sub _ _)) ny, sx, sy, q _ _ H (Go.refl E) (.bl _) hk⟩
end
end DL
/-! Fractions, rows, the run of a line: what they are, apart from any program. -/
namespace Mx
open PySem

abbrev Fr := Int × Int
def frD (x : Fr) : PyData := .tuple [.int x.1, .int x.2]
def FOk (x : Fr) : Prop := 0 < x.2 ∧ Nat.gcd x.1.natAbs x.2.natAbs = 1
def val (x : Fr) : Rat := (x.1 : Rat) / (x.2 : Rat)

theorem ratInt_ne {a : Int} (h : a ≠ 0) : (a : Rat) ≠ 0 := fun z => h (Rat.intCast_inj.mp (z.trans (by rfl)))
theorem ratInt_pos {a : Int} (h : 0 < a) : (0 : Rat) < (a : Rat) := by
  have := Rat.intCast_lt_intCast.mpr h
  exact this
theorem val_eq {x : Fr} {n d : Int} (hx : 0 < x.2) (hd : 0 < d) : val x = (n : Rat) / (d : Rat) ↔ x.1 * d = n * x.2 := by
  have h1 : (x.2 : Rat) ≠ 0 := ratInt_ne (by omega)
  have h2 : (d : Rat) ≠ 0 := ratInt_ne (by omega)
  constructor
  · intro h
    have h3 : (x.1 : Rat) * d = n * x.2 := by
      unfold val at h
      grind
    have h4 : ((x.1 * d : Int) : Rat) = ((n * x.2 : Int) : Rat) := by
      rw [Rat.intCast_mul, Rat.intCast_mul]
      exact h3
    exact Rat.intCast_inj.mp h4
  · intro h
    have h4 : ((x.1 * d : Int) : Rat) = ((n * x.2 : Int) : Rat) := by rw [h]
    rw [Rat.intCast_mul, Rat.intCast_mul] at h4
    unfold val
    grind
/-- a reduced fraction that is u / S is no longer than these -/
theorem FOk.small {x : Fr} {u S : Int} (h : FOk x) (hS : 0 < S) (e : val x * (S : Rat) = (u : Rat)) : x.1.natAbs ≤ u.natAbs ∧ x.2.natAbs ≤ S.natAbs ∧ ∃ c : Int, 0 < c ∧ S = x.2 * c ∧ u = x.1 * c := by
  obtain ⟨h1, h2⟩ := h
  have hs : (S : Rat) ≠ 0 := ratInt_ne (by omega)
  have e2 : val x = (u : Rat) / (S : Rat) := by grind
  have e3 := (val_eq h1 hS).mp e2
  have d1 : x.2.natAbs ∣ S.natAbs := by
    have : x.2 ∣ x.1 * S := ⟨u, by rw [e3]; exact Int.mul_comm _ _⟩
    have h3 : x.2.natAbs ∣ x.1.natAbs * S.natAbs := by
      rw [← Int.natAbs_mul]
      exact Int.natAbs_dvd_natAbs.mpr this
    exact (Nat.Coprime.dvd_of_dvd_mul_left (show Nat.Coprime x.2.natAbs x.1.natAbs by
      unfold Nat.Coprime
      rw [Nat.gcd_comm]
      exact h2) h3)
  obtain ⟨c, hc⟩ := Int.natAbs_dvd_natAbs.mp d1
  have hc0 : 0 < c := by
    rcases Int.lt_trichotomy c 0 with q | q | q
    · have := Int.mul_neg_of_pos_of_neg h1 q
      omega
    · rw [q] at hc
      omega
    · exact q
  have e4 : u = x.1 * c := by
    rw [hc] at e3
    have : x.2 * (x.1 * c) = x.2 * u := by rw [Int.mul_comm x.2 u, ← e3]; grind
    exact (Int.eq_of_mul_eq_mul_left (by omega) this).symm
  refine ⟨?_, ?_, c, hc0, hc, e4⟩
  · rw [e4, Int.natAbs_mul]
    exact Nat.le_mul_of_pos_right _ (by omega)
  · rw [hc, Int.natAbs_mul]
    exact Nat.le_mul_of_pos_right _ (by omega)
theorem FOk.inj {x y : Fr} (hx : FOk x) (hy : FOk y) (e : val x = val y) : x = y := by
  have e1 := (val_eq (n := y.1) hx.1 hy.1).mp (by rw [e]; rfl)
  obtain ⟨_, h2, c, hc, e3, e4⟩ := hx.small (u := y.1) hy.1 (by
    rw [e]
    have := ratInt_ne (a := y.2) (by have := hy.1; omega)
    unfold val
    grind)
  obtain ⟨_, h5, _⟩ := hy.small (u := x.1) hx.1 (by
    rw [← e]
    have := ratInt_ne (a := x.2) (by have := hx.1; omega)
    unfold val
    grind)
  have h1 := hx.1
  have h3 := hy.1
  have : x.2 = y.2 := by omega
  rw [this] at e1
  have : x.1 = y.1 := Int.eq_of_mul_eq_mul_right (by omega) e1
  exact Prod.ext this (by assumption)

/-! ### rows of whole numbers -/
def gcdL : List Int → Nat
  | [] => 0
  | x :: xs => Nat.gcd x.natAbs (gcdL xs)
def prim (u : List Int) : List Int := u.map fun x => x / (gcdL u : Int)
theorem gcdL_dvd : ∀ {u : List Int} {x : Int}, x ∈ u → ((gcdL u : Nat) : Int) ∣ x
  | y :: ys, x, h => by
    rcases List.mem_cons.mp h with rfl | h
    · exact Int.ofNat_dvd_left.mpr (Nat.gcd_dvd_left _ _)
    · exact Int.dvd_trans (Int.ofNat_dvd.mpr (Nat.gcd_dvd_right _ _)) (gcdL_dvd h)
theorem gcdL_pos {u : List Int} (h : ∃ x ∈ u, x ≠ 0) : 0 < gcdL u := by
  obtain ⟨x, hx, hn⟩ := h
  rcases Nat.eq_zero_or_pos (gcdL u) with z | z
  · have := gcdL_dvd hx
    rw [z] at this
    exact absurd (Int.zero_dvd.mp this) hn
  · exact z
theorem prim_len (u : List Int) : (prim u).length = u.length := by simp [prim]
theorem prim_get (u : List Int) (k : Nat) : (prim u).getD k 0 = u.getD k 0 / (gcdL u : Int) := by
  unfold prim
  by_cases h : k < u.length
  · simp [List.getD_eq_getElem?_getD, h]
  · simp [List.getD_eq_getElem?_getD, h]
theorem mem_getD {u : List Int} {k : Nat} (h : u.getD k 0 ≠ 0) : u.getD k 0 ∈ u := by
  by_cases q : k < u.length
  · rw [List.getD_eq_getElem?_getD, List.getElem?_eq_getElem q]
    simp
  · exfalso
    apply h
    rw [List.getD_eq_getElem?_getD, List.getElem?_eq_none (by omega)]
    rfl
theorem prim_abs (u : List Int) (k : Nat) : ((prim u).getD k 0).natAbs ≤ (u.getD k 0).natAbs := by
  rw [prim_get]
  by_cases h : u.getD k 0 = 0
  · rw [h]; simp
  · have hm := mem_getD h
    have hp := gcdL_pos ⟨_, hm, h⟩
    rw [Int.natAbs_ediv_of_dvd (gcdL_dvd hm)]
    exact Nat.div_le_self _ _

/-! ### trimming -/
/-! ### the run -/
def sh (t : Nat → Rat) : Nat → Rat
  | 0 => 0
  | k + 1 => t k
/-- the torque behind shaft i and the angle of disc i, by powers of the pace -/
def run (J K : Nat → Rat) : Nat → (Nat → Rat) × (Nat → Rat)
  | 0 => (fun k => if k = 0 then K 0 else 0, fun k => if k = 0 then 1 else 0)
  | i + 1 => (fun k => (run J K i).1 k - J i * sh (run J K i).2 k, fun k => (run J K i).2 k + ((run J K i).1 k - J i * sh (run J K i).2 k) / K (i + 1))
def tq (J K : Nat → Rat) (i : Nat) : Nat → Rat := (run J K i).1
def tn (J K : Nat → Rat) (i : Nat) : Nat → Rat := (run J K i).2
/-- the end of a line of n + 1 discs -/
def en (J K : Nat → Rat) (n : Nat) : Nat → Rat := fun k => tq J K (n + 1) k + K (n + 1) * tn J K n k
end Mx
namespace Mx
open PySem

/-! ### rows that are a number times a polynomial -/
structure Rel (S : Int) (u : List Int) (f : Nat → Rat) : Prop where
  pos : 0 < S
  at_ : ∀ k, ((u.getD k 0 : Int) : Rat) = (S : Rat) * f k
theorem getD_out {u : List Int} {k : Nat} (h : u.length ≤ k) : u.getD k 0 = 0 := by
  rw [List.getD_eq_getElem?_getD, List.getElem?_eq_none h]
  rfl
theorem Rel.ne {S : Int} {u : List Int} {f : Nat → Rat} (r : Rel S u f) {k : Nat} (h : f k ≠ 0) : u.getD k 0 ≠ 0 := by
  intro z
  have := r.at_ k
  rw [z] at this
  have hs := ratInt_ne (a := S) (by have := r.pos; omega)
  have h0 : ((0 : Int) : Rat) = 0 := rfl
  rw [h0] at this
  grind
/-! ### a step of the run in whole numbers -/
structure LN (ds ss : List Fr) : Prop where
  c1 : 1 ≤ ds.length
  c8 : ds.length ≤ 8
  len : ss.length = ds.length + 1
  dok : ∀ x ∈ ds, FOk x ∧ 0 < x.1 ∧ x.1 < 18446744073709551616 ∧ x.2 < 18446744073709551616
  sok : ∀ x ∈ ss, FOk x ∧ 0 ≤ x.1 ∧ x.1 < 18446744073709551616 ∧ x.2 < 18446744073709551616
  inn : ∀ i x, 0 < i → i < ds.length → ss[i]? = some x → 0 < x.1
def jv (ds : List Fr) (i : Nat) : Rat := val (ds.getD i (0, 1))
theorem val_pos {x : Fr} (h2 : 0 < x.2) : (0 < val x ↔ 0 < x.1) ∧ (0 ≤ val x ↔ 0 ≤ x.1) ∧ (val x = 0 ↔ x.1 = 0) := by
  have h := ratInt_pos h2
  have hi := Rat.inv_pos.mpr h
  have e : val x = (x.1 : Rat) * (x.2 : Rat)⁻¹ := Rat.div_def _ _
  have e0 : val x = 0 ↔ x.1 = 0 := by
    constructor
    · intro z
      have : (x.1 : Rat) = 0 := by
        have hn := ratInt_ne (a := x.2) (by omega)
        unfold val at z
        grind
      exact Rat.intCast_inj.mp (this.trans rfl)
    · intro z
      rw [e, z]
      show (0 : Rat) * _ = 0
      grind
  have p1 : 0 < x.1 → 0 < val x := fun q => by
    rw [e]
    exact Rat.mul_pos (ratInt_pos q) hi
  have n1 : x.1 < 0 → val x < 0 := fun q => by
    have q2 : 0 < (-x.1 : Int) := by omega
    have q3 := Rat.mul_pos (ratInt_pos q2) hi
    rw [e]
    rw [Rat.intCast_neg] at q3
    grind
  refine ⟨⟨fun q => ?_, p1⟩, ⟨fun q => ?_, fun q => ?_⟩, e0⟩
  · rcases Int.lt_trichotomy x.1 0 with z | z | z
    · have := n1 z
      grind
    · rw [e0.mpr z] at q
      exact absurd q (by decide +kernel)
    · exact z
  · rcases Int.lt_trichotomy x.1 0 with z | z | z
    · have := n1 z
      grind
    · omega
    · omega
  · rcases Int.lt_trichotomy x.1 0 with z | z | z
    · omega
    · rw [e0.mpr z]
      decide +kernel
    · exact Rat.le_of_lt (p1 z)
section
variable {ds ss : List Fr} (h : LN ds ss)
include h
end

abbrev bd (u : List Int) (e : Nat) : Prop := ∀ x ∈ u, x.natAbs < 2 ^ e
theorem bd.get {u : List Int} {e : Nat} (h : bd u e) (k : Nat) : (u.getD k 0).natAbs < 2 ^ e := by
  by_cases q : u.getD k 0 = 0
  · rw [q]
    exact Nat.pow_pos (by decide)
  · exact h _ (mem_getD q)
theorem bd.of_get {u : List Int} {e : Nat} (h : ∀ k, (u.getD k 0).natAbs < 2 ^ e) : bd u e := fun x hx => by
  obtain ⟨k, hk, e1⟩ := List.getElem_of_mem hx
  have := h k
  rw [List.getD_eq_getElem?_getD, List.getElem?_eq_getElem hk] at this
  rw [← e1]
  simpa using this
theorem natAbs_mul_lt {a b : Int} {m n : Nat} (ha : a.natAbs < 2 ^ m) (hb : b.natAbs < 2 ^ n) : (a * b).natAbs < 2 ^ (m + n) := by
  rw [Int.natAbs_mul, Nat.pow_add]
  rcases Nat.eq_zero_or_pos a.natAbs with z | z
  · rw [z, Nat.zero_mul]
    exact Nat.mul_pos (Nat.pow_pos (by decide)) (Nat.pow_pos (by decide))
  · exact Nat.lt_of_lt_of_le (Nat.mul_lt_mul_of_pos_left hb z) (Nat.mul_le_mul_right _ (Nat.le_of_lt ha))
theorem natAbs_add_lt {a b : Int} {m : Nat} (ha : a.natAbs < 2 ^ m) (hb : b.natAbs < 2 ^ m) : (a + b).natAbs < 2 ^ (m + 1) := by
  have := Int.natAbs_add_le a b
  rw [Nat.pow_succ]
  omega
theorem pow_up {a m n : Nat} (h : a < 2 ^ m) (hn : m ≤ n) : a < 2 ^ n := Nat.lt_of_lt_of_le h (Nat.pow_le_pow_right (by decide) hn)
end Mx
/-! a tuple times 1 is itself -/
namespace DL
open PySem PySem.Spec PyProof.Rows L2
section
variable {K : PySem.W.Frag} {B : Bs} {G : List Hp} {L : List Addr} {Γ : List Sl} {k : PyData → Prop}
end
end DL
namespace Mx
open PySem DL L2
section
variable {K : PySem.W.Frag} {B : Bs} {G : List Hp} {L : List Addr} {Γ : List Sl} {k : PyData → Prop}
theorem ixf0 {x : Fr} (hk : k (.int x.1)) : ROk K B G L Γ (rIx K) (frD x) (.int 0) k := rok_ixsT (d := .int x.1) rfl hk
theorem ixf1 {x : Fr} (hk : k (.int x.2)) : ROk K B G L Γ (rIx K) (frD x) (.int 1) k := rok_ixsT (d := .int x.2) rfl hk
end

section
variable {K : PySem.W.Frag} {B : Bs} {G : List Hp} {L : List Addr} {Γ : List Sl} {ta tb : TE}
theorem en_lcR {j : Nat} {vs : List Nat} {tr : TA} {tt : TT} {te : TE} {kl : List PyData → Prop} (hw : ∀ (σ : L2.St) x, L2.wipe ((L2.wipe σ vs).set j (some x)) vs = L2.wipe σ vs)
    (h : EvA K B G L Γ tr fun es => ∃ n : Int, es = [.int n] ∧ -100000 ≤ n ∧ n ≤ 100000 ∧ ∃ J, CompOk K B G L Γ j tt te vs n.toNat (fun i d' => d' = .int (i : Int)) J ∧ ∀ acc, J n.toNat acc → kl acc) :
    EvN K B G L Γ (tLc (iRng1 tr) (gName j) tt te vs) kl := fun σ H Q E q =>
  h σ H _ E fun v es H1 g1 dn ⟨n, e, h0, h1, J, C, hk⟩ => by
    subst e
    cases dn with
    | cons d1 d2 =>
      cases d2
      cases d1
      refine ⟨n, rfl, by omega, by omega, fun D hD => lc_range (lo := 0) (n := n.toNat) (fun i H' => Sofar K B L H1 H' D i J)
        ⟨fun a o w e => same_upd hD a o e, fun w hw => ?_, [], [], C.1, Nat.le_refl _, upd_same, .nil⟩ (fun i H' hi S => ?_) (fun H' S => ?_)⟩
      · obtain ⟨m, b, c, e, q⟩ := g1.env.ws w hw
        exact ⟨m, b, c, same_upd hD _ _ e, q⟩
      · have e0 : (0 : Int) + (i : Int) = (i : Int) := Int.zero_add _
        rw [e0]
        exact ⟨hw σ _, comp_turn g1.env hD C (by omega) S rfl hi (.int _)⟩
      · have g0 : Go K B G L Γ H1 H' σ := Go.of_rel g1.env S.rl S.ws
        obtain ⟨accV, acc, hJ, _, e, dA⟩ := S.it
        exact q D accV acc H' (g1.trans g0) (Go.fresh E g1 hD) e dA (hk acc hJ)
end
end Mx
/-! How many swings are slower than a pace: the changes of sign in the run at it. -/
namespace Mx
open PySem

/-! ### the row at a pace -/
/-- the angle of disc i and the torque ahead of it, at the pace p -/
def rowAt (J K : Nat → Rat) (p : Rat) : Nat → Rat × Rat
  | 0 => (1, K 0)
  | i + 1 => ((rowAt J K p i).1 + ((rowAt J K p i).2 - p * J i * (rowAt J K p i).1) / K (i + 1), (rowAt J K p i).2 - p * J i * (rowAt J K p i).1)
def xa (J K : Nat → Rat) (p : Rat) (i : Nat) : Rat := (rowAt J K p i).1
def ya (J K : Nat → Rat) (p : Rat) (i : Nat) : Rat := (rowAt J K p i).2
/-- the end of n + 1 discs -/
def ea (J K : Nat → Rat) (p : Rat) (n : Nat) : Rat := ya J K p (n + 1) + K (n + 1) * xa J K p n

/-! ### a row of whole numbers at a fraction, scaled -/
def sgn (n : Int) : Int := if 0 < n then 1 else if n < 0 then -1 else 0
def rsgn (x : Rat) : Int := if 0 < x then 1 else if x < 0 then -1 else 0
theorem rsgn_int (n : Int) : rsgn (n : Rat) = sgn n := by
  have z0 : ((0 : Int) : Rat) = 0 := rfl
  unfold rsgn sgn
  by_cases h : 0 < n
  · rw [if_pos h, if_pos (ratInt_pos h)]
  · rw [if_neg h, if_neg (fun q => h (Rat.intCast_lt_intCast.mp (by rw [z0]; exact q)))]
    by_cases h2 : n < 0
    · rw [if_pos h2, if_pos (by have := Rat.intCast_lt_intCast.mpr h2; rw [z0] at this; exact this)]
    · rw [if_neg h2, if_neg (fun q => h2 (Rat.intCast_lt_intCast.mp (by rw [z0]; exact q)))]
theorem rsgn_mul {a x : Rat} (h : 0 < a) : rsgn (a * x) = rsgn x := by
  unfold rsgn
  have ai := Rat.inv_pos.mpr h
  have e : a⁻¹ * (a * x) = x := by grind
  by_cases h1 : 0 < x
  · rw [if_pos h1, if_pos (Rat.mul_pos h h1)]
  · rw [if_neg h1, if_neg (fun q => h1 (by rw [← e]; exact Rat.mul_pos ai q))]
    by_cases h2 : x < 0
    · have : a * x < 0 := by
        have := Rat.mul_pos h (show 0 < -x by grind)
        grind
      rw [if_pos h2, if_pos this]
    · rw [if_neg h2, if_neg]
      intro q
      have := Rat.mul_pos ai (show 0 < -(a * x) by grind)
      grind
end Mx
namespace Mx
open PySem

/-! ### counting changes of sign -/
/-! ### the phase: how often the sign has changed, and where the row stands since -/
/-! ### the count never falls as the pace rises -/
def hp (x y : Rat) : Prop := 0 < x ∨ (x = 0 ∧ y < 0)
def le (s t : Nat × Rat × Rat) : Prop := s.1 < t.1 ∨ (s.1 = t.1 ∧ s.2.1 * t.2.2 - s.2.2 * t.2.1 ≤ 0)
/-! ### none at 0, all beyond a bound -/
end Mx
/-! An object that stands for a fraction: made once, read only. -/
namespace DL
open PySem PySem.Spec PyProof.Rows L2
end DL
namespace Mx
open PySem PySem.Spec PyProof.Rows L2 DL
structure PlaceAt (K : PySem.W.Frag) (H : Hp) (a : Addr) (p : Fr) : Prop where
  ex : ∃ (C dx : Addr) (fs : List (Str × V)) (vt vp : V), H a = some (.ins C dx fs) ∧ fs.lookup ("told" : Str) = some vt ∧ fs.lookup ("polynomial" : Str) = some vp ∧ Dn K H vt (frD p) ∧ Dn K H vp (.tuple []) ∧ Cls K C ∧ NoAttr K C "told" ∧ NoAttr K C "polynomial"
theorem PlaceAt.mono {K : PySem.W.Frag} {H H' : Hp} {a : Addr} {p : Fr} (h : PlaceAt K H a p) (s : Same H H') : PlaceAt K H' a p := by
  obtain ⟨C, dx, fs, vt, vp, e, l1, l2, d1, d2, r⟩ := h.ex
  exact ⟨C, dx, fs, vt, vp, s _ _ e, l1, l2, d1.mono s, d2.mono s, r⟩
section
variable {K : PySem.W.Frag} {B : Bs} {G : List Hp} {L : List Addr} {Γ : List Sl} {H H' H2 : Hp} {σ : L2.St} {te tp : TE} {k : PyData → Prop} {pre : PyData → Fr → Prop} {post : PyData → Fr → PyData → Prop} {t : TS}
theorem Go.ext (E : DL.Env K B G L H σ Γ) (s : Same H H') : Go K B G L Γ H H' σ := Go.step E (fun a o _ e => s a o e) fun w hw => by
  obtain ⟨n, b, c, e, q⟩ := E.ws w hw
  exact ⟨n, b, c, s _ _ e, q⟩
theorem Env.raw {i : Nat} {v : V} (E : DL.Env K B G L H σ Γ) (hi : Γ[i]? = some (.raw v)) : σ[i]? = some (some v) := by
  have q := E.sl i _ hi
  have q2 : σ[i]?.join = some v := q
  cases e : σ[i]? with
  | none => rw [e] at q2; cases q2
  | some x =>
    rw [e] at q2
    rw [show x = some v from q2]
end
end Mx
namespace Mx
open PySem
end Mx
/-! What the specs of defs share. -/
namespace Mx
open PySem PySem.Spec PyProof.Rows L2 DL
theorem atI_n {α : Type} (xs : List α) (n : Nat) : atI xs (n : Int) = xs[n]? := by
  unfold atI ixN
  by_cases h : n < xs.length
  · rw [if_pos (by omega), if_pos (by omega)]
    simp
  · rw [if_pos (by omega), if_neg (by omega), List.getElem?_eq_none (by omega)]
    rfl
theorem map_getG {α β : Type} {f : α → β} {u : List α} {i : Nat} {d : β} (h : (u.map f)[i]? = some d) : ∃ x, u[i]? = some x ∧ d = f x := by
  rw [List.getElem?_map] at h
  cases e : u[i]? with
  | none => rw [e] at h; cases h
  | some x =>
    rw [e] at h
    exact ⟨x, rfl, (Option.some.inj h).symm⟩
theorem lg {x : Int} {m : Nat} (h : x.natAbs < 2 ^ m) : x.natAbs.log2 ≤ m := by
  by_cases z : x.natAbs = 0
  · rw [z]
    exact Nat.zero_le _
  · exact Nat.le_of_lt ((Nat.log2_lt z).mpr h)
theorem mulW_of {x y : Int} {m n : Nat} (hx : x.natAbs < 2 ^ m) (hy : y.natAbs < 2 ^ n) (h : m + n < 1000000) : CMulW x y := by
  have a := lg hx
  have b := lg hy
  unfold CMulW
  omega
def sums (a : Int) (u : List Int) (b : Int) (v : List Int) (i : Nat) : List Int := (List.range (max u.length v.length)).map fun k => a * u.getD k 0 + if k < i then b * v.getD k 0 else 0
def lineD (ds ss : List Fr) : PyData := .tuple [.tuple (ds.map frD), .tuple (ss.map frD)]
theorem frD_inj {x y : Fr} (h : frD x = frD y) : x = y := by
  obtain ⟨a, b⟩ := x
  obtain ⟨c, d⟩ := y
  unfold frD at h
  simp only [PyData.tuple.injEq, List.cons.injEq, PyData.int.injEq] at h
  rw [h.1, h.2.1]
theorem mapF_inj : ∀ {u v : List Fr}, u.map frD = v.map frD → u = v
  | [], [], _ => rfl
  | [], _ :: _, h => by simp at h
  | _ :: _, [], h => by simp at h
  | x :: xs, y :: ys, h => by
    simp only [List.map_cons, List.cons.injEq] at h
    rw [frD_inj h.1, mapF_inj h.2]
theorem lineD_inj {a b c d : List Fr} (h : [lineD a b] = [lineD c d]) : a = c ∧ b = d := by
  unfold lineD at h
  simp only [PyData.tuple.injEq, List.cons.injEq] at h
  exact ⟨mapF_inj h.1.1, mapF_inj h.1.2.1⟩
def pol (dd ss : List Fr) (i : Nat) : Nat → Rat := if i < dd.length then tn (jv dd) (jv ss) i else en (jv dd) (jv ss) (dd.length - 1)
structure Rows (dd ss : List Fr) (rows : List (List Int)) : Prop where
  len : rows.length = dd.length + 1
  row : ∀ i r, rows[i]? = some r → ∃ u S, r = prim u ∧ Rel S u (pol dd ss i) ∧ u.length = i + 1 ∧ bd u 1200
def Sm (x : Fr) : Prop := 0 < x.2 ∧ x.1.natAbs < 2 ^ 4000 ∧ x.2.natAbs < 2 ^ 4000
structure RowOk (r : List Fr) (n : Nat) (f : Nat → Rat) : Prop where
  len : r.length = n
  ok : ∀ x ∈ r, FOk x
  at_ : ∀ k, val (r.getD k (0, 1)) = f k
structure PartOk (r : List Fr) (n : Nat) (f : Nat → Rat) : Prop where
  len : r.length = n
  ok : ∀ x ∈ r, FOk x
  at_ : ∀ k, k < n → val (r.getD k (0, 1)) = f k
theorem val_zero : val (0, 1) = 0 := by decide +kernel
theorem PartOk.row {r : List Fr} {n : Nat} {f : Nat → Rat} (h : PartOk r n f) (hz : ∀ k, n ≤ k → f k = 0) : RowOk r n f := by
  refine ⟨h.len, h.ok, fun k => ?_⟩
  by_cases q : k < n
  · exact h.at_ k q
  · rw [hz k (by omega), List.getD_eq_getElem?_getD, List.getElem?_eq_none (by rw [h.len]; omega)]
    exact val_zero
theorem frD2_inj {x y a b : Fr} (h : [frD x, frD y] = [frD a, frD b]) : x = a ∧ y = b := by
  simp only [List.cons.injEq, and_true] at h
  exact ⟨frD_inj h.1, frD_inj h.2⟩
def Gsm (f : Nat → Rat) : Prop := ∃ S u, Rel S u f ∧ bd u 1200 ∧ S.natAbs < 2 ^ 1200
theorem RowOk.smE {r : List Fr} {n : Nat} {f : Nat → Rat} (h : RowOk r n f) {e : Nat} (he : e ≤ 4000) (g : ∃ S u, Rel S u f ∧ bd u e ∧ S.natAbs < 2 ^ e) : ∀ a ∈ r, Sm a := fun a ha => by
  obtain ⟨S, u, rl, bu, bS⟩ := g
  obtain ⟨k, hk, e1⟩ := List.getElem_of_mem ha
  have v := h.at_ k
  rw [List.getD_eq_getElem?_getD, List.getElem?_eq_getElem hk] at v
  have v2 : val a = f k := by rw [← e1]; exact v
  have f1 := h.ok a ha
  obtain ⟨s1, s2, _⟩ := f1.small (u := u.getD k 0) rl.pos (by
    rw [v2, rl.at_ k]
    grind)
  exact ⟨f1.1, pow_up (Nat.lt_of_le_of_lt s1 (bu.get k)) he, pow_up (Nat.lt_of_le_of_lt s2 bS) he⟩
theorem RowOk.sm {r : List Fr} {n : Nat} {f : Nat → Rat} (h : RowOk r n f) (g : Gsm f) : ∀ a ∈ r, Sm a := h.smE (e := 1200) (by decide) g
theorem RowOk.congr {r : List Fr} {n m : Nat} {f g : Nat → Rat} (h : RowOk r n f) (e : n = m) (hf : ∀ k, f k = g k) : RowOk r m g := ⟨by rw [← e]; exact h.len, h.ok, fun k => by rw [← hf k]; exact h.at_ k⟩
def Small (r : List Fr) : Prop := ∀ x ∈ r, x.1 < 64 ∧ x.2 < 64
structure Sh (ws : List (List Int)) : Prop where
  len : ws.length ≤ 9
  row : ∀ w ∈ ws, w.length ≤ 9 ∧ bd w 1200
theorem Rows.sh {dd ss : List Fr} {ws : List (List Int)} (h : Rows dd ss ws) (h8 : dd.length ≤ 8) : Sh ws := by
  have hl := h.len
  refine ⟨by omega, fun w hw => ?_⟩
  obtain ⟨j, hj, e⟩ := List.getElem_of_mem hw
  obtain ⟨u, S, e1, r1, l1, b1⟩ := h.row j w (by rw [List.getElem?_eq_getElem hj, e])
  refine ⟨by rw [e1, prim_len]; omega, ?_⟩
  rw [e1]
  exact bd.of_get fun k => Nat.lt_of_le_of_lt (prim_abs u k) (b1.get k)
theorem Rows.first {dd ss : List Fr} {ws : List (List Int)} (R : Rows dd ss ws) (h : LN dd ss) : ∃ w, ws[0]? = some w ∧ w = [1] := by
  have hl := R.len
  refine ⟨ws[0], List.getElem?_eq_getElem (by omega), ?_⟩
  obtain ⟨u, S, e, r, l, b⟩ := R.row 0 ws[0] (List.getElem?_eq_getElem (by omega))
  rw [e]
  match u, l with
  | [x], _ =>
    have ld := r.at_ 0
    have n1 := h.c1
    have p0 : pol dd ss 0 0 = 1 := by
      unfold pol
      rw [if_pos (by omega)]
      rfl
    rw [p0] at ld
    have hx : x = S := by
      apply Rat.intCast_inj.mp
      have : (([x] : List Int).getD 0 0) = x := rfl
      rw [this] at ld
      rw [ld]
      grind
    have hS := r.pos
    subst hx
    show [x / ((Nat.gcd x.natAbs 0 : Nat) : Int)] = [1]
    rw [Nat.gcd_zero_right, show ((x.natAbs : Nat) : Int) = x by omega, Int.ediv_self (by omega)]
end Mx
namespace Mx
open PySem PySem.Spec PyProof.Rows L2 DL
section
variable {K : PySem.W.Frag} {B : Bs} {G : List Hp} {L : List Addr} {Γ : List Sl} {ta tb : TE}
end

/-! ### how great the parts of a fraction get -/
def GS (e : Nat) (v : Rat) : Prop := ∃ a b : Int, 0 < b ∧ v * (b : Rat) = (a : Rat) ∧ a.natAbs < 2 ^ e ∧ b.natAbs < 2 ^ e
theorem GS.fr {x : Fr} {e : Nat} (g : GS e (val x)) (h : FOk x) : x.1.natAbs < 2 ^ e ∧ x.2.natAbs < 2 ^ e := by
  obtain ⟨a, b, hb, e1, ha, hb2⟩ := g
  have := h.small hb e1
  exact ⟨Nat.lt_of_le_of_lt this.1 ha, Nat.lt_of_le_of_lt this.2.1 hb2⟩
theorem GS.sm {x : Fr} {e : Nat} (g : GS e (val x)) (h : FOk x) (he : e ≤ 4000) : Sm x := ⟨h.1, pow_up (g.fr h).1 he, pow_up (g.fr h).2 he⟩
theorem GS.up {e f : Nat} {v : Rat} (g : GS e v) (h : e ≤ f) : GS f v := by
  obtain ⟨a, b, hb, e1, ha, hb2⟩ := g
  exact ⟨a, b, hb, e1, pow_up ha h, pow_up hb2 h⟩
theorem val_mul {x : Fr} (h : 0 < x.2) : val x * ((x.2 : Int) : Rat) = (x.1 : Rat) := by
  have := ratInt_ne (a := x.2) (by omega)
  unfold val
  grind
theorem GS.of {x : Fr} {e : Nat} (h : 0 < x.2) (h1 : x.1.natAbs < 2 ^ e) (h2 : x.2.natAbs < 2 ^ e) : GS e (val x) := ⟨x.1, x.2, h, val_mul h, h1, h2⟩
theorem pos_num {v : Rat} {a b : Int} (hv : 0 < v) (hb : 0 < b) (e : v * (b : Rat) = (a : Rat)) : 0 < a := by
  have := Rat.mul_pos hv (ratInt_pos hb)
  rw [e] at this
  exact Rat.intCast_pos.mp this
/-- two numbers over one denominator -/
def G2 (e : Nat) (t a : Rat) : Prop := ∃ S T A : Int, 0 < S ∧ t * (S : Rat) = (T : Rat) ∧ a * (S : Rat) = (A : Rat) ∧ S.natAbs < 2 ^ e ∧ T.natAbs < 2 ^ e ∧ A.natAbs < 2 ^ e
theorem G2.l {e : Nat} {t a : Rat} (g : G2 e t a) : GS e t := by
  obtain ⟨S, T, A, s0, h1, h2, h3, h4, h5⟩ := g
  exact ⟨T, S, s0, h1, h4, h3⟩
theorem G2.r {e : Nat} {t a : Rat} (g : G2 e t a) : GS e a := by
  obtain ⟨S, T, A, s0, h1, h2, h3, h4, h5⟩ := g
  exact ⟨A, S, s0, h2, h5, h3⟩
theorem natAbs_sub_lt {a b : Int} {m : Nat} (ha : a.natAbs < 2 ^ m) (hb : b.natAbs < 2 ^ m) : (a - b).natAbs < 2 ^ (m + 1) := by
  rw [Int.sub_eq_add_neg]
  exact natAbs_add_lt ha (by rw [Int.natAbs_neg]; exact hb)
theorem G2.less {e f : Nat} {t a x : Rat} (g : G2 e t a) (h : GS f x) : G2 (e + f + 1) (t - x * a) a := by
  obtain ⟨S, T, A, s0, h1, h2, h3, h4, h5⟩ := g
  obtain ⟨c, d, hd, e2, hc, hd2⟩ := h
  refine ⟨S * d, T * d - A * c, A * d, Int.mul_pos s0 hd, ?_, ?_, pow_up (natAbs_mul_lt h3 hd2) (by omega), natAbs_sub_lt (natAbs_mul_lt h4 hd2) (natAbs_mul_lt h5 hc), pow_up (natAbs_mul_lt h5 hd2) (by omega)⟩
  · rw [Rat.intCast_sub, Rat.intCast_mul, Rat.intCast_mul, Rat.intCast_mul, ← h1, ← h2, ← e2]
    grind
  · rw [Rat.intCast_mul, Rat.intCast_mul, ← h2]
    grind
theorem G2.more {e f : Nat} {t a k : Rat} (g : G2 e t a) (h : GS f k) (hk : 0 < k) : G2 (e + f + 1) t (a + t / k) := by
  obtain ⟨S, T, A, s0, h1, h2, h3, h4, h5⟩ := g
  obtain ⟨c, d, hd, e2, hc, hd2⟩ := h
  have hc0 := pos_num hk hd e2
  refine ⟨S * c, T * c, A * c + T * d, Int.mul_pos s0 hc0, ?_, ?_, pow_up (natAbs_mul_lt h3 hc) (by omega), pow_up (natAbs_mul_lt h4 hc) (by omega), natAbs_add_lt (natAbs_mul_lt h5 hc) (natAbs_mul_lt h4 hd2)⟩
  · rw [Rat.intCast_mul, Rat.intCast_mul, ← h1]
    grind
  · rw [Rat.intCast_add, Rat.intCast_mul, Rat.intCast_mul, Rat.intCast_mul, ← h1, ← h2, ← e2]
    grind

/-! ### the row by fractions -/
/-! ### a pace beyond all swings -/
def fs (J K : Nat → Rat) : Nat → Rat
  | 0 => 1
  | i + 1 => fs J K i + 2 * ((K i + K (i + 1)) / J i)
/-! ### signs -/
theorem side_sgn {x y : Fr} (hx : 0 < x.2) (hy : 0 < y.2) : sgn (x.1 * y.2 - y.1 * x.2) = rsgn (val x - val y) := by
  rw [← rsgn_int]
  have e : ((x.1 * y.2 - y.1 * x.2 : Int) : Rat) = ((x.2 * y.2 : Int) : Rat) * (val x - val y) := by
    have h1 := val_mul hx
    have h2 := val_mul hy
    rw [Rat.intCast_sub, Rat.intCast_mul, Rat.intCast_mul, Rat.intCast_mul, ← h1, ← h2]
    grind
  rw [e]
  exact rsgn_mul (ratInt_pos (Int.mul_pos hx hy))
end Mx
namespace Mx
open PySem PySem.Spec PyProof.Rows L2 DL
/-! ### none and all slower: the signs of the row -/
/-! ### the quotient of a shape -/
/-- twists are told by w (k + 1) - w k, turns by w (k + 1) -/
def kf (K w : Nat → Rat) : Nat → Rat
  | 0 => 0
  | k + 1 => kf K w k + K k * ((w (k + 1) - w k) * (w (k + 1) - w k))
/-! ### the pivots of the table -/
def pv (J K : Nat → Rat) (p : Rat) : Nat → Rat
  | 0 => K 0 + K 1 - p * J 0
  | i + 1 => K (i + 1) + K (i + 2) - p * J (i + 1) - K (i + 1) * K (i + 1) / pv J K p i
end Mx
/-! Counting in a list, a test by None, a name for an object. -/
namespace Mx
open PySem PySem.Spec PyProof.Rows L2 DL
section
variable {K : PySem.W.Frag} {B : Bs} {G : List Hp} {L : List Addr} {Γ : List Sl} {H H' : Hp} {σ : L2.St} {te ta : TE} {k : PyData → Prop} {u : TS} {P : PD}
end
/-- turns by places: 0 ahead of the first and behind the last -/
def uv (us : List Int) (k : Nat) : Rat := ((us.getD k 0 : Int) : Rat)
/-- turns that are small -/
structure Turns (us : List Int) (c : Nat) : Prop where
  len : us.length = c
  sm : ∀ x ∈ us, -3 ≤ x ∧ x ≤ 3
  ne : ∃ x ∈ us, x ≠ 0
theorem Turns.get {us : List Int} {c : Nat} (h : Turns us c) (k : Nat) : -3 ≤ us.getD k 0 ∧ us.getD k 0 ≤ 3 := by
  by_cases q : k < us.length
  · rw [List.getD_eq_getElem?_getD, List.getElem?_eq_getElem q]
    exact h.sm _ (List.getElem_mem q)
  · rw [getD_out (by omega)]
    decide
theorem Turns.getW {us : List Int} {c : Nat} (h : Turns us c) (k : Nat) : -3 ≤ (0 :: us).getD k 0 ∧ (0 :: us).getD k 0 ≤ 3 := by
  cases k with
  | zero => exact ⟨by show (-3 : Int) ≤ 0; decide, by show (0 : Int) ≤ 3; decide⟩
  | succ k => exact h.get k
theorem Turns.some {us : List Int} {c : Nat} (h : Turns us c) : ∃ j, j < c ∧ uv us j ≠ 0 := by
  obtain ⟨x, hx, ne⟩ := h.ne
  obtain ⟨j, hj, e⟩ := List.getElem_of_mem hx
  refine ⟨j, by rw [← h.len]; exact hj, ?_⟩
  unfold uv
  rw [List.getD_eq_getElem?_getD, List.getElem?_eq_getElem hj]
  show ((us[j] : Int) : Rat) ≠ 0
  rw [e]
  exact ratInt_ne ne
/-- rows of pivots -/
structure PivAt (dd ss : List Fr) (p : Fr) (i : Nat) (ps : List Fr) : Prop where
  len : ps.length = i
  ok : ∀ j, j < i → FOk (ps.getD j (0, 1)) ∧ (ps.getD j (0, 1)).1 ≠ 0 ∧ val (ps.getD j (0, 1)) = pv (jv dd) (jv ss) (val p) j
theorem PivAt.ne {dd ss : List Fr} {p : Fr} {i : Nat} {ps : List Fr} (h : PivAt dd ss p i ps) : ∀ j, j < i → pv (jv dd) (jv ss) (val p) j ≠ 0 := fun j hj => by
  obtain ⟨a, b, c⟩ := h.ok j hj
  rw [← c]
  intro z
  exact b ((val_pos a.1).2.2.mp z)
end Mx
namespace Mx
open PySem PySem.Spec PyProof.Rows L2 DL
theorem fok_zero : FOk (0, 1) := ⟨by decide, by decide⟩
section
variable {K : PySem.W.Frag} {B : Bs} {G : List Hp} {L : List Addr} {Γ : List Sl} {t : TS} {P : PD}
end
end Mx
namespace Mx
open PySem PySem.Spec PyProof.Rows L2 DL
/-! ### a disc held: the counts of both parts -/
/-! ### parts and changes of lines -/
theorem LN.ahead {dd ss : List Fr} (h : LN dd ss) {k : Nat} (h0 : 0 < k) (hk : k < dd.length) : LN (dd.take k) (ss.take (k + 1)) := by
  have hl := h.len
  have n8 := h.c8
  refine ⟨by rw [List.length_take]; omega, by rw [List.length_take]; omega, by rw [List.length_take, List.length_take]; omega, fun x hx => h.dok x (List.mem_of_mem_take hx), fun x hx => h.sok x (List.mem_of_mem_take hx), fun i x hi hic hx => ?_⟩
  rw [List.length_take] at hic
  rw [List.getElem?_take, if_pos (by omega)] at hx
  exact h.inn i x hi (by omega) hx
theorem LN.behind {dd ss : List Fr} (h : LN dd ss) {k : Nat} (hk : k + 1 < dd.length) : LN (dd.drop (k + 1)) (ss.drop (k + 1)) := by
  have hl := h.len
  have n8 := h.c8
  refine ⟨by rw [List.length_drop]; omega, by rw [List.length_drop]; omega, by rw [List.length_drop, List.length_drop]; omega, fun x hx => h.dok x (List.mem_of_mem_drop hx), fun x hx => h.sok x (List.mem_of_mem_drop hx), fun i x hi hic hx => ?_⟩
  rw [List.length_drop] at hic
  rw [List.getElem?_drop] at hx
  exact h.inn (k + 1 + i) x (by omega) (by omega) hx
theorem LN.setD {dd ss : List Fr} (h : LN dd ss) (k : Nat) {x : Fr} (f : FOk x) (h0 : 0 < x.1) (h1 : x.1 < 18446744073709551616) (h2 : x.2 < 18446744073709551616) : LN (dd.set k x) ss := by
  refine ⟨by rw [List.length_set]; exact h.c1, by rw [List.length_set]; exact h.c8, by rw [List.length_set]; exact h.len, fun y hy => ?_, h.sok, fun i y hi hic hy => h.inn i y hi (by rw [List.length_set] at hic; exact hic) hy⟩
  rcases List.mem_or_eq_of_mem_set hy with q | q
  · exact h.dok y q
  · rw [q]
    exact ⟨f, h0, h1, h2⟩
theorem LN.setS {dd ss : List Fr} (h : LN dd ss) (k : Nat) {x : Fr} (f : FOk x) (h0 : 0 ≤ x.1) (h1 : x.1 < 18446744073709551616) (h2 : x.2 < 18446744073709551616) (h3 : 0 < k → k < dd.length → 0 < x.1) : LN dd (ss.set k x) := by
  refine ⟨h.c1, h.c8, by rw [List.length_set]; exact h.len, h.dok, fun y hy => ?_, fun i y hi hic hy => ?_⟩
  · rcases List.mem_or_eq_of_mem_set hy with q | q
    · exact h.sok y q
    · rw [q]
      exact ⟨f, h0, h1, h2⟩
  · by_cases e : i = k
    · subst e
      rw [List.getElem?_set_self (by rw [h.len]; omega)] at hy
      rw [← Option.some.inj hy]
      exact h3 hi hic
    · rw [List.getElem?_set_ne (Ne.symm e)] at hy
      exact h.inn i y hi hic hy
/-! ### what can be shown -/
def Sho (e c : Nat) (d : PyData) : Prop := d.showable = true ∧ d.hasDict = false ∧ d.depth ≤ e ∧ cost d ≤ c
theorem sho_all {e c : Nat} : ∀ {ds : List PyData}, (∀ d ∈ ds, Sho e c d) → PyData.showableAll ds = true ∧ PyData.hasDictAll ds = false ∧ PyData.depthAll ds ≤ e ∧ costAll ds ≤ (c + 2) * ds.length
  | [], _ => by simp [PyData.showableAll, PyData.hasDictAll, PyData.depthAll, costAll]
  | d :: ds, h => by
    obtain ⟨a, b, c', d'⟩ := sho_all (ds := ds) fun x hx => h x (List.mem_cons_of_mem _ hx)
    obtain ⟨p, q, r, s⟩ := h d (List.mem_cons_self ..)
    simp only [PyData.showableAll, PyData.hasDictAll, PyData.depthAll, costAll, a, b, p, q, List.length_cons]
    refine ⟨rfl, rfl, by omega, ?_⟩
    rw [Nat.mul_add]
    omega
theorem sho_lst {e c : Nat} {ds : List PyData} (h : ∀ d ∈ ds, Sho e c d) : Sho (e + 1) ((c + 2) * ds.length + 3) (.list ds) := by
  obtain ⟨a, b, c', d'⟩ := sho_all h
  simp only [Sho, PyData.showable, PyData.hasDict, PyData.depth, cost]
  exact ⟨a, b, by omega, by omega⟩
/-! ### slices, sums, being in a list -/
section
variable {K : PySem.W.Frag} {B : Bs} {G : List Hp} {L : List Addr} {Γ : List Sl} {k : PyData → Prop}
theorem cok_show {d : PyData} {e c : Nat} (h : Sho e c d) (hb : isBox d = true) (he : e < 64) (hc : c ≤ 1000000) (hk : k (.str d.shown)) : COk K B G L Γ (rReprD K) [d] k := cok_repr hb h.1 h.2.1 (Nat.lt_of_le_of_lt h.2.2.1 he) (sz_ok (Nat.le_trans h.2.2.2 hc)) hk
end
end Mx
/-! Slices of rows of fractions; one element otherwise. -/
namespace Mx
open PySem PySem.Spec PyProof.Rows L2 DL
section
variable {K : PySem.W.Frag} {B : Bs} {G : List Hp} {L : List Addr} {Γ : List Sl} {te ta : TE} {k : PyData → Prop}
end
def lineP (q : List Fr × List Fr) : PyData := lineD q.1 q.2
end Mx
/-! Counts of lines beside one another: heavier discs and softer shafts have no fewer slower swings. -/
namespace Mx
/-! ### one number otherwise: one more or less at most -/
end Mx
/-! Calls with some arguments by name, in any order. -/
namespace DL
open PySem PySem.Spec PyProof.Rows L2
def gP (m n : Nat) (js : List Nat) (us ws : List Value) : List Value := if us.length = m ∧ ws.length = n then us ++ js.map (fun j => ws.getD j .none) else []
def gPV (m n : Nat) (js : List Nat) (vs zs : List V) : List V := if vs.length = m ∧ zs.length = n then vs ++ js.map (fun j => zs.getD j .non) else []
def gPD (m n : Nat) (js : List Nat) (ds es : List PyData) : List PyData := if ds.length = m ∧ es.length = n then ds ++ js.map (fun j => es.getD j .none) else []
theorem vals_app {vs ws : List V} {us zs : List Value} : Vals vs us → Vals ws zs → Vals (vs ++ ws) (us ++ zs)
  | .nil, h => h
  | .cons a b, h => .cons a (vals_app b h)
theorem vals_getD : ∀ {zs : List V} {ws : List Value} (j : Nat), Vals zs ws → RelV (zs.getD j .non) (ws.getD j .none)
  | [], [], _, _ => rfl
  | _ :: _, _ :: _, 0, .cons a _ => a
  | _ :: _, _ :: _, j + 1, .cons _ b => vals_getD j b
theorem vals_pick {zs : List V} {ws : List Value} (h : Vals zs ws) : ∀ js : List Nat, Vals (js.map fun j => zs.getD j .non) (js.map fun j => ws.getD j .none)
  | [] => .nil
  | j :: js => .cons (vals_getD j h) (vals_pick h js)
theorem dna_getD {K : PySem.W.Frag} {H : Hp} : ∀ {zs : List V} {es : List PyData} (j : Nat), DnA K H zs es → Dn K H (zs.getD j .non) (es.getD j .none)
  | [], [], _, _ => .non
  | _ :: _, _ :: _, 0, .cons a _ => a
  | _ :: _, _ :: _, j + 1, .cons _ b => dna_getD j b
theorem dna_pick {K : PySem.W.Frag} {H : Hp} {zs : List V} {es : List PyData} (h : DnA K H zs es) : ∀ js : List Nat, DnA K H (js.map fun j => zs.getD j .non) (js.map fun j => es.getD j .none)
  | [] => .nil
  | j :: js => .cons (dna_getD j h) (dna_pick h js)
theorem dna_gP {K : PySem.W.Frag} {H : Hp} {vs zs : List V} {ds es : List PyData} (h1 : DnA K H vs ds) (h2 : DnA K H zs es) (m n : Nat) (js : List Nat) : DnA K H (gPV m n js vs zs) (gPD m n js ds es) := by
  unfold gPV gPD
  rw [h1.length, h2.length]
  split
  · exact h1.append (dna_pick h2 js)
  · exact .nil
theorem Fun.kbindsP {K : PySem.W.Frag} {x qual : Str} {st : Stmt} {f : Addr} {fd : FuncData} {ps ks : List Str} (F : Fun K x qual st f fd) (hne : ps ≠ []) (m n : Nat) (js : List Nat)
    (h : ∀ (kV doc pm : Value) (an : Option Addr) (cdv ct : Value) (us ws : List Value), us.length = m → ws.length = n → bindArgs (PySem.W.fnOf x qual (defArgs st) (defBody st) (defScope st) .none kV doc pm an cdv ct) ⟨us, ks.zip ws⟩ = pure (ps.zip (us ++ js.map fun j => ws.getD j .none))) : KBinds K fd ps ks (gP m n js) (gPV m n js) := by
  obtain ⟨oc, od, kV, doc, pm, an, cdv, ct, osl, rfl, lk, hcd⟩ := F.ex
  refine ⟨fun s us ws _ hl => ?_, fun {vs us zs ws} r rz => ?_⟩
  · unfold gP at hl ⊢
    split at hl
    · rename_i hc
      rw [if_pos hc]
      exact BindsTo.of_eq (h kV doc pm an cdv ct us ws hc.1 hc.2)
    · cases ps with
      | nil => exact absurd rfl hne
      | cons c d => cases hl
  · unfold gP gPV
    rw [r.length, rz.length]
    split
    · exact vals_app r (vals_pick rz js)
    · exact .nil
section
variable {X : Cx} {x : Str} {p pos : Pos} {k : Nat} {f : Addr} {fd : FuncData} {ps ks : List Str} {sp : Sp} {CX : CXT} {E : XK} {tk : TA} {kws : List Keyword} {g : List Value → List Value → List Value} {gV : List V → List V → List V}
def tCallN (sp : Sp) (gV : List V → List V → List V) (E : XK) (tk : TA) : TE := fun σ H Q => tk σ H fun zs H1 => sp (gV [] zs) H1 Q E
theorem pe_callN (F : FnOk X.prog X.w X.K X.mg X.base CX k f fd ps sp) (hr : Room k X.A) (hg : Gl X x) (hm : X.mg x = some (.ref f)) (hk : PySem.W.keepIn X.K (.ref f) = true) (hb : KBinds X.K fd ps ks g gV) (hx : Passes CX X E)
    (hkw : PK X kws tk) (hall : (backToKw pos (keywordEach kws X.env)).all (·.1.isSome) = true := by rfl) (hks : (backToKw pos (keywordEach kws X.env)).filterMap (·.1) = ks := by rfl)
    (hdb : (x == ("__debug__" : Str)) = false := by decide)
    (hpl : ((backTo pos (starEach [] X.env)).any (·.1) || (backToKw pos (keywordEach kws X.env)).any (·.1.isNone)) = false := by rfl) :
    PE X (.Call (.Name x p) [] kws pos) (tCallN sp gV E tk) := by
  refine ⟨fun pins s σ H Q I h => ?_⟩
  refine wpAny_Call_Name_kw (ld_glob I hg hm ?_ hdb)
  refine PySem.W.callWith_KW0 (h₀ := X.base) I.ok.mod.kin hk hall ?_ hpl
  refine thn (hkw.run pos pins s σ H _ I h) fun ws s2 ⟨zs, H2, I2, rz, q2⟩ => ⟨I2.kIn, ?_⟩
  rw [hks]
  exact run_fnk (us := []) (vs := []) F hr hb hx I2 .nil rz q2
end
section
variable {K : PySem.W.Frag} {B : Bs} {G : List Hp} {L : List Addr} {Γ : List Sl} {tr tk : TA} {k : PyData → Prop}
theorem ev_callN {pre : List PyData → Prop} {post : List PyData → PyData → Prop} {E0 : XK} {m n : Nat} {js : List Nat} (h : EvA K B G L Γ tk fun es => pre (gPD m n js [] es) ∧ ∀ d, post (gPD m n js [] es) d → k d) : EvP K B G L Γ (tCallN (SpP K pre post) (gPV m n js) E0 tk) k := fun σ H Q E q =>
  h σ H _ E fun zs es H1 g1 dn ⟨hp, hk⟩ => by
    refine ⟨L ++ B.M, gPD m n js [] es, g1.env.alive, dna_gP .nil dn m n js, hp, fun v d H' hs dv hpost => ?_⟩
    have g2 := Go.step g1.env (H' := H') (fun a o _ e => hs a o e) fun w hw => by
      obtain ⟨n, b, c, e, q⟩ := g1.env.ws w hw
      exact ⟨n, b, c, hs _ _ e, q⟩
    exact q v d H' (g1.trans g2) dv (hk d hpost)
end
end DL
/-! More of lists: list(range(n)), two lists at once, two places at once, xs[::-1], unpacking. -/
namespace DL
open PySem PySem.Spec PyProof.Rows L2
section
variable {K : PySem.W.Frag} {B : Bs} {G : List Hp} {L : List Addr} {Γ : List Sl} {H H' H2 : Hp} {σ : L2.St}
variable {te tf ta tb : TE} {k : PyData → Prop} {P : PD}
theorem co_intB {b : Bool} (hk : k (.int (if b then 1 else 0))) : COk K B G L Γ rIntQ [.bool b] k := fun σ H Q vs E d1 q => by
  cases d1 with
  | cons h1 h2 =>
    cases h2
    obtain rfl := dn_bool h1
    exact .inr ⟨b, rfl, q _ _ H (Go.refl E) (.int _) hk⟩
/-- a, b = a new list, a new list, by a tuple -/
theorem st_unpOO {i j : Nat} (h : EvN K B G L Γ ta fun xs => ∀ l1 : Addr, EvN K B G (l1 :: L) Γ tb fun ys => ∀ l2 : Addr, l1 ≠ l2 → P.nx (l2 :: l1 :: L) ((Γ.set i (.own l1 xs)).set j (.own l2 ys))) : StP K B G L Γ (tAsg (tTup (tCons ta (tCons tb tNil))) (gTup K 2 (gCons (gName i) (gCons (gName j) gNil)))) P := fun σ H D E M =>
  h σ H _ E fun p vs xs H1 g1 hp hv dv h2 => h2 p σ H1 _ (Env.temp E g1 hp hv) fun q ws ys H2 g2 hq hw dw hk => by
    have hpq : p ≠ q := ne_of_none hv hq
    refine ⟨by show 2 ≤ sizeLine; decide, fun t ht => ?_⟩
    have s3 : Same H2 (upd H2 t (.tup [.ref p, .ref q])) := same_upd ht
    have E1 := Env.take E g1 hp hv i dv
    have g3 := Go.step E1 g2.rl g2.env.ws
    have E2 := Env.take E1 g3 hq hw j dw
    have g4 := Go.new (o := .tup [.ref p, .ref q]) E2 ht
    exact ⟨t, [.ref p, .ref q], rfl, .inl (.inl upd_same), rfl, _, _, rfl, _, _, rfl, rfl, M.nx _ _ _ _ (hk q hpq) g4.env⟩
/-- xs[a], xs[b] = e, f -/
theorem st_setTwo {tr : TA} {i : Nat} {l : Addr} {xs : List PyData} (hi : Γ[i]? = some (.own l xs)) (h : EvA K B G L Γ tr fun ds => ∃ x y, ds = [x, y] ∧ EvP K B G L Γ ta fun m => ∃ j : Nat, m = .int (j : Int) ∧ j < xs.length ∧
    EvP K B G L (Γ.set i (.own l (xs.set j x))) tb fun n => ∃ j2 : Nat, n = .int (j2 : Int) ∧ j2 < xs.length ∧ P.nx L (Γ.set i (.own l ((xs.set j x).set j2 y)))) :
    StP K B G L Γ (tAsg (tTup tr) (gTup K 2 (gCons (gSub (tVar i) ta rSetL) (gCons (gSub (tVar i) tb rSetL) gNil)))) P := fun σ H D E M =>
  h σ H _ E fun vs ds H1 g1 dn ⟨x, y, e, h2⟩ => by
    subst e
    cases dn with
    | cons d1 d2 =>
      cases d2 with
      | cons d2 d3 =>
        cases d3
        rename_i v u
        refine ⟨by show 2 ≤ sizeLine; decide, fun t ht => ?_⟩
        have g2 := Go.new (o := .tup [v, u]) g1.env ht
        refine ⟨t, [v, u], rfl, .inl (.inl upd_same), rfl, _, _, rfl, ?_⟩
        obtain ⟨e1, ws0, hl0, dn0⟩ := g2.env.getO hi
        refine ⟨_, e1, h2 σ _ _ g2.env fun m dm H3 g3 dm1 ⟨j, ej, hj, h3⟩ => ?_⟩
        subst ej
        obtain ⟨e2, ws, hl2, dn3⟩ := g3.env.getO hi
        have d1' := (d1.mono g2.sm).mono g3.sm
        have d2' := (d2.mono g2.sm).mono g3.sm
        refine ⟨l, ws, (j : Int), j, rfl, dn_int dm1, hl2, ?_, ?_⟩
        · rw [dn3.length]
          unfold ixN
          rw [if_pos (by omega), if_pos (by omega)]
          simp
        · have E4 := Env.write g3.env hi (dn3.set j d1')
          have s4 : Same (hid (L ++ B.M) H3) (hid (L ++ B.M) (upd H3 l (.lst (ws.set j v)))) := fun a o e => by
            obtain ⟨q, e⟩ := hid_some e
            have lM : l ∈ L ++ B.M := List.mem_append_left _ (g3.env.ow i l xs hi)
            rw [hid_out q, upd_ne (fun (z : a = l) => q (by rw [z]; exact lM))]
            exact e
          have hi4 : (Γ.set i (.own l (xs.set j x)))[i]? = some (.own l (xs.set j x)) := List.getElem?_set_self (List.getElem?_eq_some_iff.mp hi).1
          obtain ⟨e5, ws5, hl5, dn5⟩ := E4.getO hi4
          refine ⟨_, _, rfl, _, e5, h3 σ _ _ E4 fun n dn' H5 g5 dm2 ⟨j2, ej2, hj2, hk⟩ => ?_⟩
          subst ej2
          obtain ⟨e6, ws6, hl6, dn6⟩ := g5.env.getO hi4
          have d2'' := (d2'.mono s4).mono g5.sm
          refine ⟨l, ws6, (j2 : Int), j2, rfl, dn_int dm2, hl6, ?_, ?_⟩
          · rw [dn6.length, List.length_set]
            unfold ixN
            rw [if_pos (by omega), if_pos (by omega)]
            simp
          · have E7 := Env.write g5.env hi4 (dn6.set j2 d2'')
            rw [List.set_set] at E7
            exact ⟨rfl, M.nx _ _ _ _ hk E7⟩
end
end DL
/-! Lines, slots and amounts of the later laws. -/
namespace Mx
open PySem PySem.Spec PyProof.Rows L2 DL
def Am0 (x : Fr) : Prop := FOk x ∧ 0 ≤ x.1 ∧ x.1 < 64 ∧ x.2 < 64
def Am (x : Fr) : Prop := FOk x ∧ 0 < x.1 ∧ x.1 < 64 ∧ x.2 < 64
theorem Am.to0 {x : Fr} (h : Am x) : Am0 x := ⟨h.1, by have := h.2.1; omega, h.2.2⟩
theorem am00 : Am0 (0, 1) := ⟨fok_zero, by decide, by decide, by decide⟩
structure LineS (dd ss : List Fr) : Prop where
  ln : LN dd ss
  sd : Small dd
  sq : Small ss
  c5 : dd.length ≤ 5
def slotD (b : Bool) (i : Nat) : PyData := .tuple [.str (if b then ("disc" : Str) else ("shaft" : Str)), .int (i : Int)]
def slotOk (dd ss : List Fr) (b : Bool) (i : Nat) : Prop := if b then i < dd.length else i < ss.length
def putS (dd ss : List Fr) (b : Bool) (i : Nat) (x : Fr) : List Fr × List Fr := if b then (dd.set i x, ss) else (dd, ss.set i x)
def heldS (dd ss : List Fr) (b : Bool) (i : Nat) : Fr := if b then dd.getD i (0, 1) else ss.getD i (0, 1)
/-- a row of angles, and the end -/
structure AngR (dd ss : List Fr) (p : Fr) (n : Nat) (rs : List Fr) : Prop where
  len : rs.length = n
  ok : ∀ x ∈ rs, FOk x
  inn : ∀ j, j < n → val (rs.getD j (0, 1)) = xa (jv dd) (jv ss) (val p) j
theorem AngR.get {dd ss : List Fr} {p : Fr} {n : Nat} {rs : List Fr} (h : AngR dd ss p n rs) {j : Nat} (hj : j < n) : rs[j]? = some (rs.getD j (0, 1)) ∧ FOk (rs.getD j (0, 1)) := by
  have e : rs[j]? = some (rs.getD j (0, 1)) := by
    rw [List.getD_eq_getElem?_getD, List.getElem?_eq_getElem (by rw [h.len]; exact hj)]
    rfl
  exact ⟨e, h.ok _ (List.mem_of_getElem? e)⟩
end Mx
namespace Mx
open PySem PySem.Spec PyProof.Rows L2 DL
/-! ### the product of two shapes -/
def tf (K w v : Nat → Rat) : Nat → Rat
  | 0 => 0
  | k + 1 => tf K w v k + K k * ((w (k + 1) - w k) * (v (k + 1) - v k))
/-- turns that are not great -/
structure Trn (us : List Int) (c : Nat) (b : Int) : Prop where
  len : us.length = c
  sm : ∀ x ∈ us, -b ≤ x ∧ x ≤ b
  nn : 0 ≤ b
theorem Trn.get {us : List Int} {c : Nat} {b : Int} (h : Trn us c b) (k : Nat) : -b ≤ us.getD k 0 ∧ us.getD k 0 ≤ b := by
  by_cases q : k < us.length
  · rw [List.getD_eq_getElem?_getD, List.getElem?_eq_getElem q]
    exact h.sm _ (List.getElem_mem q)
  · rw [getD_out (by omega)]
    have := h.nn
    omega
theorem Trn.getW {us : List Int} {c : Nat} {b : Int} (h : Trn us c b) (k : Nat) : -b ≤ (0 :: us).getD k 0 ∧ (0 :: us).getD k 0 ≤ b := by
  cases k with
  | zero =>
    have := h.nn
    exact ⟨by show -b ≤ 0; omega, by show 0 ≤ b; omega⟩
  | succ k => exact h.get k
theorem Trn.up {us : List Int} {c : Nat} {b e : Int} (h : Trn us c b) (he : b ≤ e) : Trn us c e := ⟨h.len, fun x hx => by have := h.sm x hx; omega, by have := h.nn; omega⟩
/-! ### shapes as data -/
end Mx
/-! A text among texts, isinstance of a text, the least common multiple. -/
namespace DL
open PySem PySem.Spec PyProof.Rows L2
section
variable {K : PySem.W.Frag} {B : Bs} {G : List Hp} {L : List Addr} {Γ : List Sl} {te : TE} {k : PyData → Prop}
end
end DL
namespace Mx
open PySem PySem.Spec PyProof.Rows L2 DL
end Mx
/-! The least common multiple of two or three numbers; a module's constant tuple. -/
namespace DL
open PySem PySem.Spec PyProof.Rows L2
section
open PySem.W
end
section
variable {K : PySem.W.Frag} {B : Bs} {G : List Hp} {L : List Addr} {Γ : List Sl} {te : TE} {k : PyData → Prop}
end
end DL
/-! Comprehensions whose turns are pairs: [.. for x, y in rows]. -/
namespace DL
open PySem PySem.Spec PyProof.Rows L2
section
variable {K : PySem.W.Frag} {B : Bs} {G : List Hp} {L : List Addr} {Γ : List Sl} {H H' : Hp} {σ : L2.St} {tl te : TE} {tt : TT}
abbrev gTwo (K : PySem.W.Frag) (j m : Nat) : TG := gTup K 2 (gCons (gName j) (gCons (gName m) gNil))
def CompOk2 (K : PySem.W.Frag) (B : Bs) (G : List Hp) (L : List Addr) (Γ : List Sl) (j m : Nat) (tt : TT) (te : TE) (vs : List Nat) (n : Nat) (item : Nat → PyData → PyData → Prop) (J : Nat → List PyData → Prop) : Prop :=
  J 0 [] ∧ ∀ i D x y acc, item i x y → J i acc → i < n → EvT K B G (D :: L) (((wipeG Γ vs).set j (.d x)).set m (.d y)) tt fun b =>
    (b = true → EvP K B G (D :: L) (((wipeG Γ vs).set j (.d x)).set m (.d y)) te fun z => J (i + 1) (acc ++ [z])) ∧ (b = false → J (i + 1) acc)
theorem wipe2 (i j : Nat) : ∀ (σ : L2.St) (x y : V), L2.wipe (((L2.wipe σ [i, j]).set i (some x)).set j (some y)) [i, j] = L2.wipe σ [i, j] := fun σ x y => by
  show (((((σ.set j none).set i none).set i (some x)).set j (some y)).set j none).set i none = (σ.set j none).set i none
  by_cases e : i = j
  · subst e
    simp only [List.set_set]
  · rw [List.set_set, List.set_set, List.set_comm _ _ (Ne.symm e), List.set_set, List.set_comm _ _ e, List.set_set]
end
end DL
/-! Truth values compared. -/
namespace DL
open PySem PySem.Spec PyProof.Rows L2
section
variable {K : PySem.W.Frag} {B : Bs} {G : List Hp} {L : List Addr} {Γ : List Sl} {H H' H2 : Hp} {σ : L2.St}
variable {te ta tb tc : TE} {tt tu : TT} {tr : TA} {k : PyData → Prop} {x y : PyData}
end
end DL
/-! The least common multiple of two numbers; in, not in, index over lists of data. -/
namespace DL
open PySem PySem.Spec PyProof.Rows L2
section
open PySem.W
end
section
variable {K : PySem.W.Frag} {B : Bs} {G : List Hp} {L : List Addr} {Γ : List Sl} {te tf : TE} {k : PyData → Prop}
theorem rok_inD {x : PyData} {ds : List PyData} (nx : x.hasDict = false) (ny : (PyData.list ds).hasDict = false) (sx : SeqAt.shaped x = true) (sy : SeqAt.shaped (.list ds) = true) (hk : k (.bool (ds.any fun z => PyData.eqv z x))) : ROk K B G L Γ (rInD K) x (.list ds) k := fun σ H Q v u E d1 d2 q =>
  ⟨x, ds, Dn.dp (d1.mono (hid_sub _ _)) nx, Dn.dp (d2.mono (hid_sub _ _)) ny, sx, sy, q _ _ H (Go.refl E) (.bl _) hk⟩
end
end DL
/-! Ranges with a start and with a step down, loops with several targets, enumerate in a comprehension. -/
namespace DL
open PySem PySem.Spec PyProof.Rows L2
section
variable {K : PySem.W.Frag} {B : Bs} {G : List Hp} {L : List Addr} {Γ : List Sl} {H H' H2 : Hp} {σ : L2.St}
variable {te ta tb tc tl : TE} {tt tu : TT} {tr : TA} {k : PyData → Prop} {x y : PyData} {P P' : PD} {t u : TS}
theorem comp_turnE {j m n : Nat} {vs : List Nat} {item : Nat → PyData → PyData → Prop} {J : Nat → List PyData → Prop} {H1 : Hp} {D : Addr} {i : Nat} {x y : PyData} (E1 : Env K B G L H1 σ Γ) (hD : H1 D = none) (C : CompOk2 K B G L Γ j m tt te vs n item J) (hn : n ≤ 100000)
    (hw : ∀ (σ : L2.St) x y, L2.wipe (((L2.wipe σ vs).set j (some x)).set m (some y)) vs = L2.wipe σ vs)
    (S : Sofar K B L H1 H' D i J) (hi : item i x y) (hin : i < n) {a : Addr} {v1 v2 : V} (e1 : SqT K H' a [v1, v2]) (d1 : Dn K (hid (L ++ B.M) H1) v1 x) (d2 : Dn K (hid (L ++ B.M) H1) v2 y) :
    gTwo K j m (.ref a) (L2.wipe σ vs) H' fun σ2 H2 => L2.wipe σ2 vs = L2.wipe σ vs ∧ tt σ2 H2 fun b H3 => if b = true then te σ2 H3 fun z H4 => ∃ acc, H4 D = some (.lst acc) ∧ acc.length < sizeLine ∧ Sofar K B L H1 (upd H4 D (.lst (acc ++ [z]))) D (i + 1) J else Sofar K B L H1 H3 D (i + 1) J := by
  obtain ⟨rl, ws, accV, acc, hJ, hlen, hDl, dA⟩ := S
  have g0 : Go K B G L Γ H1 H' σ := Go.of_rel E1 rl ws
  have ET := Env.temp E1 g0 hD hDl
  have hk0 : Same (hid (L ++ B.M) H1) (hid (D :: L ++ B.M) H') := g0.keepL E1 hD
  refine ⟨a, _, rfl, e1, rfl, v1, _, rfl, v2, _, rfl, rfl, hw σ v1 v2, ?_⟩
  have EW := ((ET.wipe vs).put j (d1.mono hk0)).put m (d2.mono hk0)
  refine C.2 i D x y acc hi hJ hin _ H' _ EW fun b H3 g3 ⟨c1, c2⟩ => ?_
  have D3 : H3 D = some (.lst accV) := g3.kp D (List.mem_cons_self ..) _ hDl
  cases b with
  | false =>
    refine iteF ⟨fun a o w e => g3.rl a o w (rl a o w e), g3.env.ws, accV, acc, c2 rfl, by omega, D3, dA.mono g3.sm⟩
  | true =>
    refine iteT (c1 rfl _ H3 _ g3.env fun y d H4 g4 dy hJ' => ?_)
    have D4 : H4 D = some (.lst accV) := g4.kp D (List.mem_cons_self ..) _ D3
    refine ⟨accV, D4, ?_, ?_⟩
    · rw [dA.length]
      exact Nat.lt_of_le_of_lt hlen (Nat.lt_of_lt_of_le (Nat.lt_of_lt_of_le hin hn) (by decide))
    · have hs : Same (hid (D :: (L ++ B.M)) H4) (hid (D :: (L ++ B.M)) (upd H4 D (.lst (accV ++ [y])))) := fun a o e => by
        obtain ⟨q, e⟩ := hid_some e
        rw [hid_out q, upd_ne (fun z => q (by rw [z]; exact List.mem_cons_self ..))]
        exact e
      have dW : D ∉ B.Ws := fun w => by
        obtain ⟨_, _, _, q, _⟩ := E1.ws D w
        rw [hD] at q; cases q
      refine ⟨fun a o w e => ?_, fun w hw => ?_, accV ++ [y], acc ++ [d], hJ', by rw [List.length_append]; exact Nat.succ_le_succ hlen, upd_same, ?_⟩
      · rw [upd_ne (ne_of_none e hD)]
        exact g4.rl a o w (g3.rl a o w (rl a o w e))
      · obtain ⟨n, b, c, e, q⟩ := g4.env.ws w hw
        exact ⟨n, b, c, by rw [upd_ne (fun (z : w = D) => dW (by rw [← z]; exact hw))]; exact e, q⟩
      · exact ((dA.mono g3.sm).mono g4.sm |>.append (.cons dy .nil)).mono hs
theorem Sofar.newT {H1 : Hp} {D T : Addr} {i : Nat} {J : Nat → List PyData → Prop} {o : HO} (E1 : Env K B G L H1 σ Γ) (hD : H1 D = none) (S : Sofar K B L H1 H' D i J) (hT : H' T = none) : Sofar K B L H1 (upd H' T o) D i J := by
  obtain ⟨rl, ws, accV, acc, hJ, hlen, hDl, dA⟩ := S
  have s : Same H' (upd H' T o) := same_upd hT
  exact ⟨fun a x w e => s _ _ (rl a x w e), fun w hw => by
    obtain ⟨n, b, c, e, q⟩ := ws w hw
    exact ⟨n, b, c, s _ _ e, q⟩, accV, acc, hJ, hlen, s _ _ hDl, dA.mono (hid_same fun a x _ e => s _ _ e)⟩
end
end DL
/-! Loops over three rows at once, lists or tuples, of one length. -/
namespace DL
open PySem PySem.Spec PyProof.Rows L2 RZ
def SqB (K : PySem.W.Frag) (H : Hp) (b : Bool) (a : Addr) (xs : List V) : Prop := if b = true then SqT K H a xs else SqL K H a xs
def ItB (h : Heap) (b : Bool) (it l : Addr) (i : Nat) : Prop := if b = true then h.IsTupleIter it l i else h.IsListIter it l i
def ObB (h : Heap) (b : Bool) (l : Addr) (items : Array Value) : Prop := if b = true then h.IsTuple l items else h.IsList l items
theorem ItB.ob {h : Heap} {b : Bool} {it l : Addr} {i : Nat} (q : ItB h b it l i) : ∃ o, h.get? it = some o ∧ o.data = .fields #[.ref l, .int i 0] := by
  unfold ItB at q
  cases b with
  | true => obtain ⟨o, e, _, d⟩ := (show h.IsTupleIter it l i from q); exact ⟨o, e, d⟩
  | false => obtain ⟨o, e, _, d⟩ := (show h.IsListIter it l i from q); exact ⟨o, e, d⟩
theorem ItB.at {h h' : Heap} {b : Bool} {it l : Addr} {i : Nat} (q : ItB h b it l i) (k : ∀ o, h.get? it = some o → h'.get? it = some o) : ItB h' b it l i := by
  unfold ItB at q ⊢
  cases b with
  | true => exact Heap.IsTupleIter.at (show h.IsTupleIter it l i from q) k
  | false => exact Heap.IsListIter.at (show h.IsListIter it l i from q) k
theorem drawsB {prog : Program} {w : World} {A : Around} (hh : A.handled = none) (b : Bool) (it l : Addr) (hne : l ≠ it) (items : Array Value) : Draws prog w A it [it, l] items.size (fun i v => items[i]? = some v) (fun i h => ItB h b it l i ∧ ObB h b l items) := by
  cases b with
  | true => exact Draws.tuple hh it l hne items
  | false => exact Draws.list hh it l hne items
theorem beginsB (b : Bool) (l : Addr) (items : Array Value) : Begins (.ref l) { cls := .type (if b = true then "tuple_iterator" else "list_iterator"), data := .fields #[.ref l, .int 0 0] } fun h => ObB h b l items := by
  cases b with
  | true => exact begins_tuple l items
  | false => exact begins_list l items
theorem itB_new {h : Heap} {b : Bool} {it l : Addr} (e : h.get? it = some { cls := .type (if b = true then "tuple_iterator" else "list_iterator"), data := .fields #[.ref l, .int 0 0] }) : ItB h b it l 0 := by
  unfold ItB
  cases b with
  | true => exact ⟨_, e, rfl, rfl⟩
  | false => exact ⟨_, e, rfl, rfl⟩
theorem inv_seqB {X : Cx} {pins : List (Addr × Obj)} {σ : L2.St} {H : Hp} {s : Shared} (I : Inv X pins σ H s) {b : Bool} {a : Addr} {xs : List V} (q : SqB X.K H b a xs) : ∃ its : List Value, ObB s.heap b a its.toArray ∧ its.length = xs.length ∧ (∀ (i : Nat) (x : V), xs[i]? = some x → ∃ u, its[i]? = some u ∧ RelV x u) ∧ a < s.heap.objs.size := by
  unfold SqB at q
  unfold ObB
  cases b with
  | true =>
    obtain ⟨its, rv, p, _⟩ := I.tuple (show SqT X.K H a xs from q)
    obtain ⟨o, ho, _⟩ := id p
    exact ⟨its, p, rv.length.symm, fun i x hx => rv.get hx, Heap.lt_size ho⟩
  | false =>
    obtain ⟨its, rv, p, _⟩ := I.list (show SqL X.K H a xs from q)
    exact ⟨its, p.isList, rv.length.symm, fun i x hx => rv.get hx, p.lt⟩
theorem inv_injB {X : Cx} {pins : List (Addr × Obj)} {σ : L2.St} {H : Hp} {s : Shared} (I : Inv X pins σ H s) {b : Bool} {a : Addr} {xs ys : List V} (q : SqB X.K H b a xs) (r : SqB X.K H b a ys) : xs = ys := by
  unfold SqB at q r
  cases b with
  | true => exact I.tuple_inj (show SqT X.K H a xs from q) (show SqT X.K H a ys from r)
  | false => exact I.list_inj (show SqL X.K H a xs from q) (show SqL X.K H a ys from r)
section
variable {K : PySem.W.Frag} {B : Bs} {G : List Hp} {L : List Addr} {Γ : List Sl} {H H' H2 : Hp} {σ : L2.St}
variable {te ta tb tc tl : TE} {tt tu : TT} {tr : TA} {k : PyData → Prop} {x y : PyData} {P P' : PD} {t u : TS}
def rowB (b : Bool) (ds : List PyData) : PyData := if b = true then .tuple ds else .list ds
theorem dn_rowB {f : Hp} {H : Hp} {b : Bool} {v : V} {ds : List PyData} (h : Dn K f v (rowB b ds)) : ∃ a xs, v = .ref a ∧ DnA K f xs ds ∧ ((b = true ∧ SqT K f a xs) ∨ (b = false ∧ f a = some (.lst xs))) := by
  unfold rowB at h
  cases b with
  | true =>
    cases (show Dn K f v (.tuple ds) from h) with
    | @tup a xs _ e1 h2 => exact ⟨a, xs, rfl, h2, .inl ⟨rfl, e1⟩⟩
  | false =>
    cases (show Dn K f v (.list ds) from h) with
    | @lst a xs _ e1 h2 => exact ⟨a, xs, rfl, h2, .inr ⟨rfl, e1⟩⟩
theorem sqB_of {f H : Hp} {b : Bool} {a : Addr} {xs : List V} (s : Same f H) (h : (b = true ∧ SqT K f a xs) ∨ (b = false ∧ f a = some (.lst xs))) : SqB K H b a xs := by
  unfold SqB
  rcases h with ⟨rfl, e⟩ | ⟨rfl, e⟩
  · exact Same.sqt s e
  · exact .inl (.inl (s _ _ e))
end
end DL
/-! any of a tuple of whole numbers. -/
namespace DL
open PySem PySem.Spec PyProof.Rows L2
section
variable {K : PySem.W.Frag} {B : Bs} {G : List Hp} {L : List Addr} {Γ : List Sl} {k : PyData → Prop}
end
end DL
/-! Two rows at once, each a list or a tuple, of one length: loops and comprehensions. -/
namespace DL
open PySem PySem.Spec PyProof.Rows L2 RZ
def Itz2 (K : PySem.W.Frag) (b1 b2 : Bool) (a b : Addr) : It :=
  ⟨fun i H => ∃ (xs ys : List V) (x y : V), SqB K H b1 a xs ∧ SqB K H b2 b ys ∧ xs[i]? = some x ∧ ys[i]? = some y,
    fun i H v H' => ∃ T x y, v = .ref T ∧ H T = none ∧ H' = upd H T (.tup [x, y]) ∧ (∀ xs, SqB K H b1 a xs → xs[i]? = some x) ∧ ∀ ys, SqB K H b2 b ys → ys[i]? = some y,
    fun i H => ∃ xs ys : List V, SqB K H b1 a xs ∧ SqB K H b2 b ys ∧ xs.length = i ∧ ys.length = i⟩
theorem sep2 (I l1 l2 : Nat) (h1 : l1 < I) (h2 : l2 < I) : ZipSep2 (I + 4) (I + 2) (I + 3) I (I + 1) [I, l1] [I + 1, l2] := by
  constructor <;> simp <;> (try constructor) <;> (try intro q) <;> (try (have q : (_ : Nat) = _ := q)) <;> omega
theorem turn_zip2 {P : Program} {w : World} {K : PySem.W.Frag} {elts : List Expr} {kk : Nat} {tpos : Pos} {b1 b2 : Bool} {a b z TI TO i1 i2 : Addr} (D : ZipSep2 z TI TO i1 i2 [i1, a] [i2, b]) (n1 : a ≠ i1) (n2 : b ≠ i2) :
    Turn P w K (.Tuple elts kk tpos) (Itz2 K b1 b2 a b) [z, TI, TO, i1, i2] z (fun i h => IsZip h z TI TO .none ∧ IsTupOf2 h TI (.ref i1) (.ref i2) ∧ (∃ x y, IsTupOf2 h TO x y) ∧ ItB h b1 i1 a i ∧ ItB h b2 i2 b i) where
  mem := by simp
  obj := fun i h st d hc => by
    obtain ⟨hz, hTI, ⟨x, y, hTO⟩, h1, h2⟩ := st
    obtain ⟨o1, e1, d1⟩ := h1.ob
    obtain ⟨o2, e2, d2⟩ := h2.ob
    have e' : d = z ∨ d = TI ∨ d = TO ∨ d = i1 ∨ d = i2 := by simpa using hc
    rcases e' with q | q | q | q | q
    · rw [q]; exact ⟨_, hz, fun v q => nomatch q⟩
    · rw [q]; exact ⟨_, hTI, fun v q => nomatch q⟩
    · rw [q]; exact ⟨_, hTO, fun v q => nomatch q⟩
    · rw [q]; exact ⟨o1, e1, fun v q => by rw [d1] at q; cases q⟩
    · rw [q]; exact ⟨o2, e2, fun v q => by rw [d2] at q; cases q⟩
  keep := fun i h h' st k => by
    obtain ⟨hz, hTI, ⟨x, y, hTO⟩, h1, h2⟩ := st
    exact ⟨k z (by simp) _ hz, k TI (by simp) _ hTI, ⟨x, y, k TO (by simp) _ hTO⟩, h1.at fun o q => k i1 (by simp) o q, h2.at fun o q => k i2 (by simp) o q⟩
  item := by
    intro X hP hw hK hc i pins s σ H E I hf st hg
    subst hP hw hK
    obtain ⟨hz, hTI, ⟨x0, y0, hTO⟩, h1, h2⟩ := st
    obtain ⟨xs, ys, x, y, qx, qy, hx, hy⟩ := hg
    obtain ⟨t1, p1, l1, g1, _⟩ := inv_seqB I qx
    obtain ⟨t2, p2, l2, g2, _⟩ := inv_seqB I qy
    obtain ⟨u1, hu1, r1⟩ := g1 i x hx
    obtain ⟨u2, hu2, r2⟩ := g2 i y hy
    have hzl : z < s.heap.objs.size := Heap.lt_size hz
    have hh : X.A.in1.handled = none := I.ok.hd hc
    have D1 := drawsB (prog := X.prog) (w := X.w) hh b1 i1 a n1 t1.toArray
    have D2 := drawsB (prog := X.prog) (w := X.w) hh b2 i2 b n2 t2.toArray
    refine wpAny_pyNext_zipD2_item D D1 D2 hz hTI hTO ⟨h1, p1⟩ ⟨h2, p2⟩
      (show i < t1.toArray.size by simpa using (List.getElem?_eq_some_iff.mp hu1).1) (show i < t2.toArray.size by simpa using (List.getElem?_eq_some_iff.mp hu2).1) fun w1 w2 h' tk e1 e2 z' TO' s1 s2 hT hsz hk => ?_
    have e1 : w1 = u1 := by
      have : t1[i]? = some w1 := by simpa using e1
      rw [hu1] at this
      exact (Option.some.inj this).symm
    have e2 : w2 = u2 := by
      have : t2[i]? = some w2 := by simpa using e2
      rw [hu2] at this
      exact (Option.some.inj this).symm
    subst e1 e2
    refine ⟨_, rfl, wpAny_letOwnedTupleGo_zip (s := { s with heap := h', toks := tk }) z' fun h'' z'' sb => ?_⟩
    have hT2 : h''.get? s.heap.objs.size = some { cls := .type "tuple", data := .seq #[w1, w2] } := (sb.2 _ (Nat.ne_of_gt hzl)).trans hT
    have new : ObjOk X.prog X.w (upd H s.heap.objs.size (.tup [x, y])) h'' s.heap.objs.size (.tup [x, y]) :=
      ⟨by show 2 ≤ sizeLine; decide, [w1, w2], .cons r1 (.cons r2 .nil), ⟨_, hT2, rfl, _, rfl⟩⟩
    have I1 : Inv X pins σ (upd H s.heap.objs.size (.tup [x, y])) { s with heap := h'', toks := tk } :=
      I.turnedNew (t' := tk) (ch := [z, TI, TO, i1, i2]) (fun c o hb q => (sb.2 c (fun q' => hb (by simp [q']))).trans (hk c o (fun q' => hb (by simp [q'])) (fun q' => hb (by simp [q'])) (fun q' => hb (by simp [q'])) (fun q' => hb (by simp [q'])) q)) hf (Nat.le_refl _) new
    have k1 : i1 ≠ z := D.zi1.symm
    have k2 : i2 ≠ z := D.zi2.symm
    refine ⟨.ref s.heap.objs.size, _, I1, rfl, ⟨_, x, y, rfl, I.hok.fresh (Nat.le_refl _), rfl, fun l hl => by rw [inv_injB I hl qx]; exact hx, fun l hl => by rw [inv_injB I hl qy]; exact hy⟩, ⟨z'', ?_, ⟨w1, w2, ?_⟩, ?_, ?_⟩, fun c hcm => ?_⟩
    · exact (sb.2 _ D.TIz).trans (hk _ _ D.TIz D.TITO D.TIi1 D.TIi2 hTI)
    · exact (sb.2 _ D.TOz).trans TO'
    · exact s1.1.at fun o q => (sb.2 _ k1).trans q
    · exact s2.1.at fun o q => (sb.2 _ k2).trans q
    · have hlt : c < s.heap.objs.size := by
        have e' : c = z ∨ c = TI ∨ c = TO ∨ c = i1 ∨ c = i2 := by simpa using hcm
        rcases e' with q | q | q | q | q
        · rw [q]; exact hzl
        · rw [q]; exact Heap.lt_size hTI
        · rw [q]; exact Heap.lt_size hTO
        · rw [q]; obtain ⟨_, e1, _⟩ := h1.ob; exact Heap.lt_size e1
        · rw [q]; obtain ⟨_, e2, _⟩ := h2.ob; exact Heap.lt_size e2
      rw [upd_ne (Nat.ne_of_lt hlt)]
      exact (hf c hcm).1
  done := by
    intro X hP hw hK hc i pins s σ H E I hf st hg
    subst hP hw hK
    obtain ⟨hz, hTI, ⟨x0, y0, hTO⟩, h1, h2⟩ := st
    obtain ⟨xs, ys, qx, qy, lx, ly⟩ := hg
    obtain ⟨t1, p1, l1, g1, _⟩ := inv_seqB I qx
    obtain ⟨t2, p2, l2, g2, _⟩ := inv_seqB I qy
    have hh : X.A.in1.handled = none := I.ok.hd hc
    have D1 := drawsB (prog := X.prog) (w := X.w) hh b1 i1 a n1 t1.toArray
    have D2 := drawsB (prog := X.prog) (w := X.w) hh b2 i2 b n2 t2.toArray
    exact wpAny_pyNext_zipD2_end D D1 D2 hz hTI hTO ⟨h1, p1⟩ ⟨h2, p2⟩
      (show i ≤ t1.toArray.size by simp; omega) (show i ≤ t2.toArray.size by simp; omega) (.inl (show i = t1.toArray.size by simp; omega)) fun h' tk hk => ⟨rfl, I.turnedL (t' := tk) (ch := [z, TI, TO, i1, i2]) (fun c o hb q =>
      hk c o (fun q' => hb (by simp [q'])) (fun q' => hb (by simp [q'])) (fun q' => hb (by simp [q'])) (fun q' => hb (by simp [q'])) q) hf⟩
  self := fun A i s Q E st h => wpAny_pyIter_zip st.1 h
def iZip2 (K : PySem.W.Frag) (ta : TA) : TI := fun σ H R => ta σ H fun vs H1 => ∃ (a b : Addr) (b1 b2 : Bool) (xs ys : List V), vs = [.ref a, .ref b] ∧ SqB K H1 b1 a xs ∧ SqB K H1 b2 b ys ∧ R (Itz2 K b1 b2 a b) H1
theorem pi_zip2 {X : Cx} {e e2 : Expr} {ta : TA} {p pos tpos : Pos} {elts : List Expr} {kk : Nat} (hg : Gl X "zip") (hm : X.mg "zip" = none) (ha : PA X [e, e2] ta)
    (hs : starEach [e, e2] X.env = (false, eval e X.env) :: starEach [e2] X.env := by rfl) (hpl : (backTo pos (starEach [e2] X.env)).any (·.1) = false := by rfl) :
    PI X (.Tuple elts kk tpos) (.Call (.Name "zip" p) [e, e2] [] pos) (iZip2 X.K ta) := by
  refine ⟨fun pins s σ H R I h => ?_⟩
  refine Call_ (ld_blt I hg hm PyProof.Rows.boot_zip (PyProof.Rows.callWith_type1 (thn (ha.run pos pins s σ H _ I h) fun us s1 ⟨vs, H1, I1, r1, q1⟩ => ?_) hs hpl))
  obtain ⟨a, b, b1, b2, xs, ys, ex, qx, qy, q⟩ := q1
  subst ex
  cases r1 with
  | cons r rr =>
    cases rr with
    | cons r' rr =>
      cases rr
      cases r
      cases r'
      have fresh : ∀ d, d ∈ [s1.heap.objs.size + 4, s1.heap.objs.size + 2, s1.heap.objs.size + 3, s1.heap.objs.size, s1.heap.objs.size + 1] → FpOk X pins H1 d := fun d hd => by
        have hle : s1.heap.objs.size ≤ d := by
          have e' : d = s1.heap.objs.size + 4 ∨ d = s1.heap.objs.size + 2 ∨ d = s1.heap.objs.size + 3 ∨ d = s1.heap.objs.size ∨ d = s1.heap.objs.size + 1 := by simpa using hd
          rcases e' with z | z | z | z | z
          · rw [z]; exact Nat.le_add_right _ _
          · rw [z]; exact Nat.le_add_right _ _
          · rw [z]; exact Nat.le_add_right _ _
          · rw [z]; exact Nat.le_refl _
          · rw [z]; exact Nat.le_add_right _ _
        exact I1.fpOk hle (I1.hok.fresh hle)
      obtain ⟨t1, p1, _, _, g1⟩ := inv_seqB I1 qx
      obtain ⟨t2, p2, _, _, g2⟩ := inv_seqB I1 qy
      refine zip_begins2 (beginsB b1 a t1.toArray) (beginsB b2 b t2.toArray) p1 p2 fun h' hz hTI hTO e1 e2 hsz hk => wpAny_pyIter_zip hz ?_
      have I2 : Inv X pins σ H1 { s1 with heap := h' } := I1.kept (t' := s1.toks) hk
      exact ⟨s1.heap.objs.size + 4, [s1.heap.objs.size + 4, s1.heap.objs.size + 2, s1.heap.objs.size + 3, s1.heap.objs.size, s1.heap.objs.size + 1], _, _, H1, rfl, I2, turn_zip2 (sep2 s1.heap.objs.size a b g1 g2) (Nat.ne_of_lt g1) (Nat.ne_of_lt (Nat.lt_succ_of_lt g2)), ⟨hz, hTI, ⟨_, _, hTO⟩, itB_new e1, itB_new e2⟩, fresh, q⟩
theorem lc_zip2 {K : PySem.W.Frag} {b1 b2 : Bool} {a b : Addr} {xs ys : List V} {g : TG} {tt : TT} {te : TE} {vs : List Nat} {σ : L2.St} {H1 : Hp} {D : Addr} {Qd : Hp → Prop} (l1 : xs.length = ys.length) (Pv : Nat → Hp → Prop) (h0 : Pv 0 (upd H1 D (.lst []))) (hl : ∀ i H, i ≤ xs.length → Pv i H → SqB K H b1 a xs ∧ SqB K H b2 b ys)
    (hs : ∀ (i : Nat) (x y : V) (T : Addr) (H : Hp), xs[i]? = some x → ys[i]? = some y → Pv i H → H T = none → g (.ref T) (L2.wipe σ vs) (upd H T (.tup [x, y])) fun σ2 H2 => L2.wipe σ2 vs = L2.wipe σ vs ∧ tt σ2 H2 fun b H3 =>
      if b = true then te σ2 H3 fun y H4 => ∃ acc, H4 D = some (.lst acc) ∧ acc.length < sizeLine ∧ Pv (i + 1) (upd H4 D (.lst (acc ++ [y]))) else Pv (i + 1) H3) (hd : ∀ H, Pv xs.length H → Qd H) :
    ∃ W : Nat → Nat → Hp → Prop, (∃ m, W 0 m (upd H1 D (.lst []))) ∧ ∀ i m H, W i m H →
      ((Itz2 K b1 b2 a b).stop i H ∧ Qd H) ∨ ((Itz2 K b1 b2 a b).go i H ∧ ∃ Nx : Hp → Prop, (∀ H', Nx H' → ∃ m', m' < m ∧ W (i + 1) m' H') ∧ ∀ x H', (Itz2 K b1 b2 a b).yld i H x H' → g x (L2.wipe σ vs) H' fun σ2 H2 => L2.wipe σ2 vs = L2.wipe σ vs ∧ tt σ2 H2 fun b H3 =>
        if b = true then te σ2 H3 fun y H4 => ∃ acc, H4 D = some (.lst acc) ∧ acc.length < sizeLine ∧ Nx (upd H4 D (.lst (acc ++ [y]))) else Nx H3) := by
  refine ⟨fun i m H => m = xs.length - i ∧ i ≤ xs.length ∧ Pv i H, ⟨xs.length, by simp, Nat.zero_le _, h0⟩, ?_⟩
  rintro i m H ⟨rfl, hi, p⟩
  obtain ⟨qx, qy⟩ := hl i H hi p
  by_cases hlt : i < xs.length
  · have hx : xs[i]? = some xs[i] := List.getElem?_eq_getElem hlt
    have hy : ys[i]? = some ys[i] := List.getElem?_eq_getElem (by omega)
    refine .inr ⟨⟨xs, ys, _, _, qx, qy, hx, hy⟩, Pv (i + 1), fun H' p' => ⟨xs.length - (i + 1), by omega, rfl, hlt, p'⟩, fun v H' y => ?_⟩
    obtain ⟨T, x', y', rfl, hT, rfl, f1, f2⟩ := y
    exact hs i x' y' T H (f1 xs qx) (f2 ys qy) p hT
  · have e : i = xs.length := by omega
    subst e
    exact .inl ⟨⟨xs, ys, qx, qy, rfl, by omega⟩, hd H p⟩
section
variable {K : PySem.W.Frag} {B : Bs} {G : List Hp} {L : List Addr} {Γ : List Sl} {H H' H2 : Hp} {σ : L2.St}
variable {te ta tb tc tl : TE} {tt tu : TT} {tr : TA} {k : PyData → Prop} {x y : PyData} {P P' : PD} {t u : TS}
/-- [.. for a, b in zip of two rows of one length if ..] -/
theorem en_lcZ2 {j m : Nat} {vs : List Nat} {kl : List PyData → Prop} (hw : ∀ (σ : L2.St) x y, L2.wipe (((L2.wipe σ vs).set j (some x)).set m (some y)) vs = L2.wipe σ vs)
    (h : EvA K B G L Γ tr fun ws => ∃ (b1 b2 : Bool) (ds es : List PyData), ws = [rowB b1 ds, rowB b2 es] ∧ ds.length = es.length ∧ ds.length ≤ 100000 ∧ ∃ J, CompOk2 K B G L Γ j m tt te vs ds.length (fun i x y => ds[i]? = some x ∧ es[i]? = some y) J ∧ ∀ acc, J ds.length acc → kl acc) :
    EvN K B G L Γ (tLc (iZip2 K tr) (gTwo K j m) tt te vs) kl := fun σ H Q E q =>
  h σ H _ E fun ws dd H1 g1 dn ⟨b1, b2, ds, es, e, le, hl, J, C, hk⟩ => by
    subst e
    cases dn with
    | cons d1 dn =>
      cases dn with
      | cons d2 dn =>
        cases dn
        obtain ⟨a1, x1, rfl, h1, q1⟩ := dn_rowB (H := H1) d1
        obtain ⟨a2, x2, rfl, h2, q2⟩ := dn_rowB (H := H1) d2
        have l1 := h1.length
        have l2 := h2.length
        refine ⟨a1, a2, b1, b2, x1, x2, rfl, sqB_of (hid_sub _ _) q1, sqB_of (hid_sub _ _) q2, fun D hD => lc_zip2 (xs := x1) (ys := x2) (by omega) (fun i H' => Sofar K B L H1 H' D i J)
          ⟨fun a o w e => same_upd hD a o e, fun w hw => ?_, [], [], C.1, Nat.le_refl _, upd_same, .nil⟩ (fun i H' _ S => ?_) (fun i x y T H' hx hy S hT => ?_) (fun H' S => ?_)⟩
        · obtain ⟨n, b, c, e, q⟩ := g1.env.ws w hw
          exact ⟨n, b, c, same_upd hD _ _ e, q⟩
        · have g0 : Go K B G L Γ H1 H' σ := Go.of_rel g1.env S.rl S.ws
          have s := g0.sm.trans (hid_sub _ _)
          exact ⟨sqB_of s q1, sqB_of s q2⟩
        · obtain ⟨d, e1, n1⟩ := h1.getV hx
          obtain ⟨e, e2, n2⟩ := h2.getV hy
          exact comp_turnE g1.env hD C hl hw (S.newT g1.env hD hT) ⟨e1, e2⟩ (List.getElem?_eq_some_iff.mp e1).1 (.inl (.inl upd_same)) n1 n2
        · have g0 : Go K B G L Γ H1 H' σ := Go.of_rel g1.env S.rl S.ws
          obtain ⟨accV, acc, hJ, _, e, dA⟩ := S.it
          rw [l1] at hJ
          exact q D accV acc H' (g1.trans g0) (Go.fresh E g1 hD) e dA (hk acc hJ)
end
end DL
/-! A module's table of constant rows; comprehensions with three targets over a tuple of tuples. -/
namespace DL
open PySem PySem.Spec PyProof.Rows L2
section
variable {K : PySem.W.Frag} {B : Bs} {G : List Hp} {L : List Addr} {Γ : List Sl} {H H' H2 : Hp} {σ : L2.St}
variable {te ta tb tc tl : TE} {tt tu : TT} {tr : TA} {k : PyData → Prop} {x y : PyData} {P P' : PD} {t u : TS}
end
end DL
/-! A row that is a list or a tuple. -/
namespace DL
open PySem PySem.Spec PyProof.Rows L2
section
variable {K : PySem.W.Frag} {B : Bs} {G : List Hp} {L : List Addr} {Γ : List Sl} {H H' H2 : Hp} {σ : L2.St}
variable {te ta tb tc tl : TE} {tt tu : TT} {tr : TA} {k : PyData → Prop} {x y : PyData} {P P' : PD} {t u : TS}
end
end DL
/-! xs[j] -= e, x = xs.pop(), divmod unpacked, a module's row of numbers, shifts of any size. -/
namespace DL
open PySem PySem.Spec PyProof.Rows L2
section
variable {K : PySem.W.Frag} {B : Bs} {G : List Hp} {L : List Addr} {Γ : List Sl} {H H' H2 : Hp} {σ : L2.St}
variable {te ta tb tc tl : TE} {tt tu : TT} {tr : TA} {k : PyData → Prop} {x y : PyData} {P P' : PD} {t u : TS}
end
end DL
/-! A list of one's own that is kept or made anew, looked at as data. -/
namespace DL
open PySem PySem.Spec PyProof.Rows L2
section
variable {K : PySem.W.Frag} {B : Bs} {G : List Hp} {L : List Addr} {H H' : Hp} {σ : L2.St} {Γ : List Sl}
variable {te ta tb : TE} {tt : TT} {P : PD}
/-- a step with what is known behind it -/
theorem st_mid {t u : TS} (I : List Addr → List Sl → Prop) (h1 : StP K B G L Γ t { P with nx := I }) (h2 : ∀ L' Γ', I L' Γ' → StP K B G L' Γ' u P) : StP K B G L Γ (tSeq t u) P := fun σ H D E M =>
  h1 σ H { D with nx := u D } E ⟨fun L' Γ' σ' H' hs E' => h2 L' Γ' hs σ' H' D E' M, M.rt, M.bk, M.ct⟩
end
end DL
namespace DL
open PySem PySem.Spec PyProof.Rows L2
section
variable {K : PySem.W.Frag} {B : Bs} {G : List Hp} {L : List Addr} {H H' : Hp} {σ : L2.St} {Γ : List Sl}
variable {te ta tb : TE} {k : PyData → Prop}
end
end DL
/-! Walks over what may be a list or a tuple. -/
namespace DL
open PySem PySem.Spec PyProof.Rows L2
section
variable {X : Cx} {tg l : Expr} {tl : TE}
end
section
variable {K : PySem.W.Frag} {B : Bs} {G : List Hp} {L : List Addr} {H H' H2 : Hp} {σ : L2.St} {Γ : List Sl}
variable {te tl : TE} {tt : TT} {t : TS} {P : PD}
end
end DL
/-! A display of a dict with one pair; a def that draws from the well and calls itself. -/
namespace DL
open PySem PySem.Spec PyProof.Rows L2
theorem noW {K : PySem.W.Frag} {pre : List PyData → Prop} {post : List PyData → PyData → Prop} {vs : List V} {H : Hp} {Q : VK} {E : XK} (h : SpW K pre post vs H Q E) (hn : ∀ ds, pre ds → False) : False := by
  obtain ⟨_, _, _, ds, _, _, _, _, _, hp, _⟩ := h
  exact hn ds hp
section
variable {K : PySem.W.Frag} {B : Bs} {G : List Hp} {L : List Addr} {H : Hp} {σ : L2.St} {Γ : List Sl} {k : PyData → Prop}
theorem ev_disp1 {s : Str} {i : Int} (hk : k (.dict [(.str s, .int i)])) : EvP K B G L Γ (tDisp [(tC (.str s), tC (.int i))]) k := fun σ H Q E q p hp => by
  refine ⟨upd_same, [(.inr s, .int i)], rfl, (show (1 : Nat) ≤ 15 by decide), ?_⟩
  rw [upd_upd]
  have g := Go.new (o := .dK (mergeK [] [(.inr s, .int i)])) E hp
  exact q _ (.dict [(.str s, .int i)]) _ g (.emp (hid_new (E.newM hp)) ⟨(fun z => by cases (show [((Sum.inr s : Key), V.int i)] = [] from z)), (fun z => by cases z)⟩) hk
end
end DL
namespace Mx
open PySem PySem.Spec PyProof.Rows L2 DL
/-! data of little depth, its numbers small -/
def Atm : PyData → Prop
  | .none => True
  | .bool _ => True
  | .int i => i.natAbs < 2 ^ 4000
  | .str x => PyData.strOk x = true
  | _ => False
def Ok : Nat → PyData → Prop
  | 0, d => Atm d
  | n + 1, d => Atm d ∨ ∃ xs : List PyData, (d = .tuple xs ∨ d = .list xs) ∧ xs.length ≤ 100 ∧ ∀ x ∈ xs, Ok n x
theorem Ok.succ : ∀ {n : Nat} {d : PyData}, Ok n d → Ok (n + 1) d
  | 0, d, h => .inl h
  | n + 1, d, h => by
    rcases h with h | ⟨xs, e, l, h⟩
    · exact .inl h
    · exact .inr ⟨xs, e, l, fun x hx => (h x hx).succ⟩
theorem Ok.up {n m : Nat} {d : PyData} (h : Ok n d) (l : n ≤ m) : Ok m d := by
  induction l with
  | refl => exact h
  | step _ ih => exact ih.succ
theorem Ok.items {n : Nat} {xs : List PyData} (h : Ok (n + 1) (.tuple xs)) : xs.length ≤ 100 ∧ ∀ x ∈ xs, Ok n x := by
  rcases h with h | ⟨ys, e, l, h⟩
  · exact h.elim
  · rcases e with e | e
    · cases e
      exact ⟨l, h⟩
    · cases e
theorem Ok.int {n : Nat} {i : Int} (h : Ok n (.int i)) : i.natAbs < 2 ^ 4000 := by
  cases n with
  | zero => exact h
  | succ n =>
    rcases h with h | ⟨ys, e, l, h⟩
    · exact h
    · rcases e with e | e <;> cases e
theorem okAll_shape {n : Nat} : ∀ {xs : List PyData}, (∀ x ∈ xs, x.canLay0 = true ∧ x.depth ≤ n ∧ x.hasDict = false) → PyData.canLayAll0 xs = true ∧ PyData.depthAll xs ≤ n ∧ PyData.hasDictAll xs = false
  | [], _ => ⟨by simp only [PyData.canLayAll0], by simp only [PyData.depthAll]; omega, by simp only [PyData.hasDictAll]⟩
  | x :: xs, h => by
    obtain ⟨a, b, c⟩ := h x (List.mem_cons_self ..)
    obtain ⟨d, e, f⟩ := okAll_shape (xs := xs) fun y hy => h y (List.mem_cons_of_mem _ hy)
    refine ⟨?_, ?_, ?_⟩
    · simp only [PyData.canLayAll0, a, d, Bool.and_self]
    · simp only [PyData.depthAll]
      omega
    · simp only [PyData.hasDictAll, c, f, Bool.or_self]
theorem atm_shape {d : PyData} (h : Atm d) : d.canLay0 = true ∧ d.depth ≤ 0 ∧ d.hasDict = false := by
  cases d with
  | none => exact ⟨by simp only [PyData.canLay0], by simp only [PyData.depth]; omega, by simp only [PyData.hasDict]⟩
  | bool b => exact ⟨by simp only [PyData.canLay0], by simp only [PyData.depth]; omega, by simp only [PyData.hasDict]⟩
  | int b => exact ⟨by simp only [PyData.canLay0], by simp only [PyData.depth]; omega, by simp only [PyData.hasDict]⟩
  | str b => exact ⟨by simp only [PyData.canLay0]; exact h, by simp only [PyData.depth]; omega, by simp only [PyData.hasDict]⟩
  | _ => exact h.elim
theorem Ok.shape : ∀ {n : Nat} {d : PyData}, Ok n d → d.canLay0 = true ∧ d.depth ≤ n ∧ d.hasDict = false
  | 0, d, h => atm_shape h
  | n + 1, d, h => by
    rcases h with h | ⟨xs, e, l, h⟩
    · obtain ⟨a, b, c⟩ := atm_shape h
      exact ⟨a, by omega, c⟩
    · obtain ⟨a, b, c⟩ := okAll_shape fun x hx => (h x hx).shape
      rcases e with rfl | rfl
      · exact ⟨by simp only [PyData.canLay0]; exact a, by simp only [PyData.depth]; omega, by simp only [PyData.hasDict]; exact c⟩
      · exact ⟨by simp only [PyData.canLay0]; exact a, by simp only [PyData.depth]; omega, by simp only [PyData.hasDict]; exact c⟩
theorem ok_list {n : Nat} {xs : List PyData} (h : ∀ x ∈ xs, Ok n x) (l : n ≤ 60) : SeqAt.shaped (.list xs) = true ∧ (PyData.list xs).hasDict = false := by
  obtain ⟨a, b, c⟩ := okAll_shape fun x hx => (h x hx).shape
  refine ⟨?_, by simp only [PyData.hasDict]; exact c⟩
  unfold SeqAt.shaped
  simp only [PyData.canLay0, PyData.depth, a, Bool.true_and, decide_eq_true_eq]
  exact decide_eq_true (show PyData.depthAll xs + 1 ≤ 64 by omega)
theorem nil_shaped : SeqAt.shaped (.list []) = true ∧ (PyData.list []).hasDict = false := ok_list (n := 0) (fun x hx => by cases hx) (by decide)
theorem eqv_nil (xs : List PyData) : PyData.eqv (.list xs) (.list []) = xs.isEmpty := by
  cases xs <;> simp [PyData.eqv, PyData.eqvAll]
/-! lines of any numbers -/
structure LL (dd ss : List Fr) : Prop where
  c1 : 1 ≤ dd.length
  c8 : dd.length ≤ 8
  len : ss.length = dd.length + 1
  dok : ∀ x ∈ dd, FOk x ∧ 0 < x.1
  sok : ∀ x ∈ ss, FOk x ∧ 0 ≤ x.1
  inn : ∀ i x, 0 < i → i < dd.length → ss[i]? = some x → 0 < x.1
structure LB (dd ss : List Fr) : Prop extends LL dd ss where
  sd : ∀ x ∈ dd, Sm x
  sq : ∀ x ∈ ss, Sm x
theorem pow64 {n : Nat} (h : n < 18446744073709551616) : n < 2 ^ 4000 := Nat.lt_of_lt_of_le (show n < 2 ^ 64 from h) (Nat.pow_le_pow_right (by decide) (by decide))
theorem LN.lb {dd ss : List Fr} (h : LN dd ss) : LB dd ss where
  c1 := h.c1
  c8 := h.c8
  len := h.len
  dok := fun x hx => ⟨(h.dok x hx).1, (h.dok x hx).2.1⟩
  sok := fun x hx => ⟨(h.sok x hx).1, (h.sok x hx).2.1⟩
  inn := h.inn
  sd := fun x hx => by
    obtain ⟨f, a, b, c⟩ := h.dok x hx
    have := f.1
    exact ⟨f.1, pow64 (by omega), pow64 (by omega)⟩
  sq := fun x hx => by
    obtain ⟨f, a, b, c⟩ := h.sok x hx
    have := f.1
    exact ⟨f.1, pow64 (by omega), pow64 (by omega)⟩
/-- the first line is nowhere faster -/
def NF (dd ss ee ts : List Fr) : Prop := dd.length = ee.length ∧ (∀ i, i < dd.length → jv ee i ≤ jv dd i) ∧ ∀ i, i < ss.length → jv ss i ≤ jv ts i
def BoxP (v : PyData) : Prop := ∃ dd ss ee ts : List Fr, v = .tuple [lineD dd ss, lineD ee ts] ∧ LL dd ss ∧ LL ee ts ∧ NF dd ss ee ts
theorem jv_el {r : List Fr} {i : Nat} {x : Fr} (h : r[i]? = some x) : jv r i = val x := by
  unfold jv
  rw [List.getD_eq_getElem?_getD, h]
  rfl
theorem rsgn_le {x y : Rat} : decide (rsgn (x - y) ≤ 0) = decide (x ≤ y) := by
  apply decide_eq_decide.mpr
  unfold rsgn
  by_cases h : 0 < x - y
  · rw [if_pos h]
    constructor
    · intro z
      exact absurd z (by decide)
    · intro z
      grind
  · rw [if_neg h]
    constructor
    · intro _
      grind
    · intro _
      split <;> decide
theorem frs_sm {r : List Fr} {n : Nat} (h : ∀ x ∈ r.map frD, Ok n x) (f : ∀ x ∈ r, FOk x) : ∀ x ∈ r, Sm x := fun x hx => by
  have := h (frD x) (List.mem_map.mpr ⟨x, hx, rfl⟩)
  cases n with
  | zero => exact this.elim
  | succ n =>
    obtain ⟨_, q⟩ := Ok.items (xs := [.int x.1, .int x.2]) this
    exact ⟨(f x hx).1, (q _ (List.mem_cons_self ..)).int, (q _ (List.mem_cons_of_mem _ (List.mem_cons_self ..))).int⟩
theorem line_lb {dd ss : List Fr} {n : Nat} (h : Ok n (lineD dd ss)) (l : LL dd ss) : LB dd ss := by
  cases n with
  | zero => exact h.elim
  | succ n =>
    obtain ⟨_, q⟩ := Ok.items (xs := [.tuple (dd.map frD), .tuple (ss.map frD)]) h
    have q1 := q _ (List.mem_cons_self ..)
    have q2 := q _ (List.mem_cons_of_mem _ (List.mem_cons_self ..))
    cases n with
    | zero => exact q1.elim
    | succ n => exact { toLL := l, sd := frs_sm q1.items.2 fun x hx => (l.dok x hx).1, sq := frs_sm q2.items.2 fun x hx => (l.sok x hx).1 }
theorem ok_fr {x : Fr} (h : Sm x) : Ok 1 (frD x) := .inr ⟨[.int x.1, .int x.2], .inl rfl, (show 2 ≤ 100 by decide), fun y hy => by
  simp only [List.mem_cons, List.not_mem_nil, or_false] at hy
  rcases hy with rfl | rfl
  · exact h.2.1
  · exact h.2.2⟩
theorem ok_two {n : Nat} {x y : PyData} (h : Ok n x) (k : Ok n y) : Ok (n + 1) (.tuple [x, y]) := .inr ⟨[x, y], .inl rfl, (show 2 ≤ 100 by decide), fun z hz => by
  simp only [List.mem_cons, List.not_mem_nil, or_false] at hz
  rcases hz with rfl | rfl
  · exact h
  · exact k⟩
theorem LB.ok {dd ss : List Fr} (h : LB dd ss) : Ok 3 (lineD dd ss) := by
  have c8 := h.c8
  have len := h.len
  refine ok_two (n := 2) (.inr ⟨dd.map frD, .inl rfl, by rw [List.length_map]; omega, fun y hy => ?_⟩) (.inr ⟨ss.map frD, .inl rfl, by rw [List.length_map]; omega, fun y hy => ?_⟩)
  · obtain ⟨x, hx, rfl⟩ := List.mem_map.mp hy
    exact ok_fr (h.sd x hx)
  · obtain ⟨x, hx, rfl⟩ := List.mem_map.mp hy
    exact ok_fr (h.sq x hx)
/-! the slots of a line -/
def slotsOf (n : Nat) : List (Bool × Nat) := (List.range n).map (fun i => (true, i)) ++ (List.range (n + 1)).map (fun i => (false, i))
def slotP (p : Bool × Nat) : PyData := slotD p.1 p.2
theorem slots_is (n : Nat) : (List.range n).map (slotD true) ++ (List.range (n + 1)).map (slotD false) = (slotsOf n).map slotP := by
  unfold slotsOf
  rw [List.map_append, List.map_map, List.map_map]
  rfl
theorem slotsOf_mem {n : Nat} {b : Bool} {i : Nat} : (b, i) ∈ slotsOf n ↔ (b = true ∧ i < n) ∨ (b = false ∧ i < n + 1) := by
  unfold slotsOf
  rw [List.mem_append, List.mem_map, List.mem_map]
  constructor
  · rintro (⟨j, hj, e⟩ | ⟨j, hj, e⟩)
    · cases e
      exact .inl ⟨rfl, List.mem_range.mp hj⟩
    · cases e
      exact .inr ⟨rfl, List.mem_range.mp hj⟩
  · rintro (⟨rfl, h⟩ | ⟨rfl, h⟩)
    · exact .inl ⟨i, List.mem_range.mpr h, rfl⟩
    · exact .inr ⟨i, List.mem_range.mpr h, rfl⟩
theorem slotsOf_len (n : Nat) : (slotsOf n).length = 2 * n + 1 := by
  unfold slotsOf
  rw [List.length_append, List.length_map, List.length_map, List.length_range, List.length_range]
  omega
theorem slot_ok {dd ss : List Fr} (hl : ss.length = dd.length + 1) {b : Bool} {i : Nat} (h : (b, i) ∈ slotsOf dd.length) : slotOk dd ss b i := by
  rcases slotsOf_mem.mp h with ⟨rfl, q⟩ | ⟨rfl, q⟩
  · exact q
  · show i < ss.length
    omega
def SOk (dd ss ee ts : List Fr) (p : Bool × Nat) : Prop := if p.1 = true then jv ee p.2 ≤ jv dd p.2 else jv ss p.2 ≤ jv ts p.2
theorem nf_slots {dd ss ee ts : List Fr} (hl : dd.length = ee.length) (sl : ss.length = dd.length + 1) : NF dd ss ee ts ↔ ∀ p ∈ slotsOf dd.length, SOk dd ss ee ts p := by
  constructor
  · rintro ⟨_, a, b⟩ ⟨c, i⟩ hp
    rcases slotsOf_mem.mp hp with ⟨rfl, q⟩ | ⟨rfl, q⟩
    · exact a i q
    · exact b i (by omega)
  · intro h
    refine ⟨hl, fun i hi => ?_, fun i hi => ?_⟩
    · exact h (true, i) (slotsOf_mem.mpr (.inl ⟨rfl, hi⟩))
    · exact h (false, i) (slotsOf_mem.mpr (.inr ⟨rfl, by omega⟩))
theorem held_val (dd ss : List Fr) (b : Bool) (i : Nat) : val (heldS dd ss b i) = if b = true then jv dd i else jv ss i := by
  cases b <;> rfl
theorem getD_mem {r : List Fr} {i : Nat} (h : i < r.length) : r.getD i (0, 1) ∈ r := by
  rw [List.getD_eq_getElem?_getD, List.getElem?_eq_getElem h]
  exact List.getElem_mem h
theorem held_sm {dd ss : List Fr} (h : LB dd ss) {b : Bool} {i : Nat} (ok : slotOk dd ss b i) : Sm (heldS dd ss b i) := by
  cases b with
  | true => exact h.sd _ (getD_mem ok)
  | false => exact h.sq _ (getD_mem ok)
theorem rsgn_neg {x y : Rat} : rsgn (x - y) < 0 ↔ x < y := by
  unfold rsgn
  by_cases h : 0 < x - y
  · rw [if_pos h]
    constructor
    · intro z
      exact absurd z (by decide)
    · intro z
      grind
  · rw [if_neg h]
    by_cases h2 : x - y < 0
    · rw [if_pos h2]
      exact ⟨fun _ => by grind, fun _ => by decide⟩
    · rw [if_neg h2]
      exact ⟨fun z => absurd z (by decide), fun z => by grind⟩
theorem rsgn_pos' {x y : Rat} : 0 < rsgn (x - y) ↔ y < x := by
  unfold rsgn
  by_cases h : 0 < x - y
  · rw [if_pos h]
    exact ⟨fun _ => by grind, fun _ => by decide⟩
  · rw [if_neg h]
    by_cases h2 : x - y < 0
    · rw [if_pos h2]
      exact ⟨fun z => absurd z (by decide), fun z => by grind⟩
    · rw [if_neg h2]
      exact ⟨fun z => absurd z (by decide), fun z => by grind⟩
/-- between two numbers -/
theorem between {h a b : Rat} (ab : a ≤ b) : ¬ 0 < rsgn (h - a) * rsgn (h - b) ↔ a ≤ h ∧ h ≤ b := by
  unfold rsgn
  by_cases h1 : 0 < h - a
  · rw [if_pos h1]
    by_cases h2 : 0 < h - b
    · rw [if_pos h2]
      exact ⟨fun z => absurd (by decide) z, fun z => by grind⟩
    · rw [if_neg h2]
      by_cases h3 : h - b < 0
      · rw [if_pos h3]
        exact ⟨fun _ => by grind, fun _ => by decide⟩
      · rw [if_neg h3]
        exact ⟨fun _ => by grind, fun _ => by decide⟩
  · rw [if_neg h1]
    by_cases h4 : h - a < 0
    · rw [if_pos h4, if_neg (by grind), if_pos (by grind)]
      exact ⟨fun z => absurd (by decide) z, fun z => by grind⟩
    · rw [if_neg h4]
      have e : ∀ z : Int, (0 : Int) * z = 0 := fun z => Int.zero_mul z
      rw [e]
      exact ⟨fun _ => by grind, fun _ => by decide⟩
theorem between' {h a b : Rat} (ab : a ≤ b) : ¬ 0 < rsgn (h - b) * rsgn (h - a) ↔ a ≤ h ∧ h ≤ b := by
  rw [Int.mul_comm]
  exact between ab
theorem sok_two {dd ss ee ts ff us : List Fr} {p : Bool × Nat} (h : SOk dd ss ee ts p) : ¬ 0 < rsgn (val (heldS ff us p.1 p.2) - val (heldS dd ss p.1 p.2)) * rsgn (val (heldS ff us p.1 p.2) - val (heldS ee ts p.1 p.2)) ↔ SOk dd ss ff us p ∧ SOk ff us ee ts p := by
  obtain ⟨b, i⟩ := p
  rw [held_val, held_val, held_val]
  cases b with
  | true =>
    have h : jv ee i ≤ jv dd i := h
    show ¬ 0 < rsgn (jv ff i - jv dd i) * rsgn (jv ff i - jv ee i) ↔ jv ff i ≤ jv dd i ∧ jv ee i ≤ jv ff i
    rw [between' h]
    exact And.comm
  | false =>
    have h : jv ss i ≤ jv ts i := h
    show ¬ 0 < rsgn (jv us i - jv ss i) * rsgn (jv us i - jv ts i) ↔ jv ss i ≤ jv us i ∧ jv us i ≤ jv ts i
    exact between h
theorem take_step {α : Type} {l : List α} {i : Nat} {p : α} {q : α → Prop} (hp : l[i]? = some p) (h : ∀ x ∈ l.take i, q x) (k : q p) : ∀ x ∈ l.take (i + 1), q x := fun x hx => by
  rw [List.take_add_one, hp] at hx
  rcases List.mem_append.mp hx with hx | hx
  · exact h x hx
  · rw [List.mem_singleton.mp hx]
    exact k

/-! data with rows of a given length -/
def OkC (c : Nat) : Nat → PyData → Prop
  | 0, d => Atm d
  | n + 1, d => Atm d ∨ ∃ xs : List PyData, (d = .tuple xs ∨ d = .list xs) ∧ xs.length ≤ c ∧ ∀ x ∈ xs, OkC c n x
theorem OkC.succ {c : Nat} : ∀ {n : Nat} {d : PyData}, OkC c n d → OkC c (n + 1) d
  | 0, d, h => .inl h
  | n + 1, d, h => by
    rcases h with h | ⟨xs, e, l, h⟩
    · exact .inl h
    · exact .inr ⟨xs, e, l, fun x hx => (h x hx).succ⟩
theorem OkC.up {c : Nat} {n m : Nat} {d : PyData} (h : OkC c n d) (l : n ≤ m) : OkC c m d := by
  induction l with
  | refl => exact h
  | step _ ih => exact ih.succ
theorem OkC.wide {c e : Nat} (l : c ≤ e) : ∀ {n : Nat} {d : PyData}, OkC c n d → OkC e n d
  | 0, d, h => h
  | n + 1, d, h => by
    rcases h with h | ⟨xs, q, k, h⟩
    · exact .inl h
    · exact .inr ⟨xs, q, Nat.le_trans k l, fun x hx => (h x hx).wide l⟩
theorem OkC.ok {c : Nat} (l : c ≤ 100) : ∀ {n : Nat} {d : PyData}, OkC c n d → Ok n d
  | 0, d, h => h
  | n + 1, d, h => by
    rcases h with h | ⟨xs, q, k, h⟩
    · exact .inl h
    · exact .inr ⟨xs, q, Nat.le_trans k l, fun x hx => (h x hx).ok l⟩
theorem OkC.items {c n : Nat} {xs : List PyData} (h : OkC c (n + 1) (.tuple xs)) : xs.length ≤ c ∧ ∀ x ∈ xs, OkC c n x := by
  rcases h with h | ⟨ys, e, l, h⟩
  · exact h.elim
  · rcases e with e | e
    · cases e
      exact ⟨l, h⟩
    · cases e
theorem okc_two {c n : Nat} {x y : PyData} (hc : 2 ≤ c) (h : OkC c n x) (k : OkC c n y) : OkC c (n + 1) (.tuple [x, y]) := .inr ⟨[x, y], .inl rfl, hc, fun z hz => by
  simp only [List.mem_cons, List.not_mem_nil, or_false] at hz
  rcases hz with rfl | rfl
  · exact h
  · exact k⟩
theorem LB.okc {dd ss : List Fr} (h : LB dd ss) : OkC 9 3 (lineD dd ss) := by
  have c8 := h.c8
  have len := h.len
  have fr : ∀ {x : Fr}, Sm x → OkC 9 1 (frD x) := fun {x} h => okc_two (n := 0) (by decide) h.2.1 h.2.2
  refine okc_two (n := 2) (by decide) (.inr ⟨dd.map frD, .inl rfl, by rw [List.length_map]; omega, fun y hy => ?_⟩) (.inr ⟨ss.map frD, .inl rfl, by rw [List.length_map]; omega, fun y hy => ?_⟩)
  · obtain ⟨x, hx, rfl⟩ := List.mem_map.mp hy
    exact fr (h.sd x hx)
  · obtain ⟨x, hx, rfl⟩ := List.mem_map.mp hy
    exact fr (h.sq x hx)
def okB : Nat → PyData → Bool
  | _, .none => true
  | _, .bool _ => true
  | _, .int i => decide (i.natAbs < 2 ^ 4000)
  | _, .str x => PyData.strOk x
  | n + 1, .tuple xs => decide (xs.length ≤ 3) && xs.all (okB n)
  | n + 1, .list xs => decide (xs.length ≤ 3) && xs.all (okB n)
  | _, _ => false
theorem okB_ok : ∀ {n : Nat} {d : PyData}, okB n d = true → OkC 3 n d
  | 0, d, h => by
    cases d with
    | none => trivial
    | bool b => trivial
    | int i => exact of_decide_eq_true (p := i.natAbs < 2 ^ 4000) h
    | str x => exact h
    | tuple xs => cases h
    | list xs => cases h
    | dict xs => cases h
  | n + 1, d, h => by
    cases d with
    | none => exact .inl trivial
    | bool b => exact .inl trivial
    | int i => exact .inl (of_decide_eq_true (p := i.natAbs < 2 ^ 4000) h)
    | str x => exact .inl h
    | tuple xs =>
      have h : (decide (xs.length ≤ 3) && xs.all (okB n)) = true := h
      rw [Bool.and_eq_true, List.all_eq_true] at h
      exact .inr ⟨xs, .inl rfl, of_decide_eq_true h.1, fun x hx => okB_ok (h.2 x hx)⟩
    | list xs =>
      have h : (decide (xs.length ≤ 3) && xs.all (okB n)) = true := h
      rw [Bool.and_eq_true, List.all_eq_true] at h
      exact .inr ⟨xs, .inr rfl, of_decide_eq_true h.1, fun x hx => okB_ok (h.2 x hx)⟩
    | dict xs => cases h
/-! what is put into a line -/
theorem jv_put {r : List Fr} {i j : Nat} {x : Fr} (hi : i < r.length) : jv (r.set i x) j = if j = i then val x else jv r j := by
  unfold jv
  by_cases q : j = i
  · subst q
    rw [if_pos rfl, List.getD_eq_getElem?_getD, List.getElem?_set_self hi]
    rfl
  · rw [if_neg q, List.getD_eq_getElem?_getD, List.getElem?_set_ne (fun z => q z.symm), ← List.getD_eq_getElem?_getD]
theorem part_pos {a b p : Rat} (hp : p = 0 ∨ p = 1 ∨ p = 1 / 2 ∨ p = 1 / 3 ∨ p = 2 / 3) : (0 < a → 0 < b → 0 < a + (b - a) * p) ∧ (0 ≤ a → 0 ≤ b → 0 ≤ a + (b - a) * p) := by
  rcases hp with rfl | rfl | rfl | rfl | rfl
  · exact ⟨fun _ _ => by grind, fun _ _ => by grind⟩
  · exact ⟨fun _ _ => by grind, fun _ _ => by grind⟩
  · exact ⟨fun _ _ => by grind, fun _ _ => by grind⟩
  · exact ⟨fun _ _ => by grind, fun _ _ => by grind⟩
  · exact ⟨fun _ _ => by grind, fun _ _ => by grind⟩
theorem put_ln2 {dd ss : List Fr} (h : LN dd ss) {b : Bool} {i : Nat} {x : Fr} (f : FOk x) (h0 : 0 ≤ x.1) (h1 : x.1 < 18446744073709551616) (h2 : x.2 < 18446744073709551616) (h3 : b = true ∨ (0 < i ∧ i < dd.length) → 0 < x.1) : LN (putS dd ss b i x).1 (putS dd ss b i x).2 := by
  cases b with
  | true => exact h.setD i f (h3 (.inl rfl)) h1 h2
  | false => exact h.setS i f h0 h1 h2 fun a c => h3 (.inr ⟨a, c⟩)
theorem put_len2 (dd ss : List Fr) (b : Bool) (i : Nat) (x : Fr) : (putS dd ss b i x).1.length = dd.length := by
  cases b with
  | true => exact List.length_set
  | false => rfl
theorem put_sok {dd ss ee ts : List Fr} {b : Bool} {i : Nat} {x : Fr} (ok : slotOk dd ss b i) (h : ∀ p ∈ slotsOf ee.length, SOk dd ss ee ts p) (hx : if b = true then jv ee i ≤ val x else val x ≤ jv ts i) : ∀ p ∈ slotsOf ee.length, SOk (putS dd ss b i x).1 (putS dd ss b i x).2 ee ts p := by
  rintro ⟨c, j⟩ hp
  have q := h (c, j) hp
  cases b with
  | true =>
    have ok : i < dd.length := ok
    cases c with
    | true =>
      show jv ee j ≤ jv (dd.set i x) j
      rw [jv_put ok]
      by_cases z : j = i
      · rw [if_pos z, z]
        exact hx
      · rw [if_neg z]
        exact q
    | false => exact q
  | false =>
    have ok : i < ss.length := ok
    cases c with
    | true => exact q
    | false =>
      show jv (ss.set i x) j ≤ jv ts j
      rw [jv_put ok]
      by_cases z : j = i
      · rw [if_pos z, z]
        exact hx
      · rw [if_neg z]
        exact q
def LQ (dd ss : List Fr) : Prop := LN dd ss ∧ (∀ x ∈ dd, x.1 < 512 ∧ x.2 < 512) ∧ ∀ x ∈ ss, x.1 < 512 ∧ x.2 < 512
theorem put_lq {dd ss : List Fr} (h : LQ dd ss) {b : Bool} {i : Nat} {x : Fr} (f : FOk x) (h0 : 0 ≤ x.1) (h1 : x.1 < 512) (h2 : x.2 < 512) (h3 : b = true ∨ (0 < i ∧ i < dd.length) → 0 < x.1) : LQ (putS dd ss b i x).1 (putS dd ss b i x).2 := by
  refine ⟨put_ln2 h.1 f h0 (by omega) (by omega) h3, ?_⟩
  cases b with
  | true =>
    refine ⟨fun y hy => ?_, h.2.2⟩
    rcases List.mem_or_eq_of_mem_set hy with q | q
    · exact h.2.1 y q
    · rw [q]
      exact ⟨h1, h2⟩
  | false =>
    refine ⟨h.2.1, fun y hy => ?_⟩
    rcases List.mem_or_eq_of_mem_set hy with q | q
    · exact h.2.2 y q
    · rw [q]
      exact ⟨h1, h2⟩
/-- what a slot holds -/
theorem LN.held {dd ss : List Fr} (h : LN dd ss) {b : Bool} {i : Nat} (ok : slotOk dd ss b i) : FOk (heldS dd ss b i) ∧ 0 ≤ (heldS dd ss b i).1 ∧ (b = true ∨ (0 < i ∧ i < dd.length) → 0 < (heldS dd ss b i).1) := by
  cases b with
  | true =>
    obtain ⟨f, p, _, _⟩ := h.dok _ (getD_mem ok)
    exact ⟨f, Int.le_of_lt p, fun _ => p⟩
  | false =>
    obtain ⟨f, p, _, _⟩ := h.sok _ (getD_mem ok)
    refine ⟨f, p, fun z => ?_⟩
    rcases z with z | ⟨a, c⟩
    · cases z
    · exact h.inn i _ a c (by show ss[i]? = some (ss.getD i (0, 1)); rw [List.getD_eq_getElem?_getD, List.getElem?_eq_getElem ok]; rfl)
theorem LQ.held {dd ss : List Fr} (h : LQ dd ss) {b : Bool} {i : Nat} (ok : slotOk dd ss b i) : (heldS dd ss b i).1.natAbs < 2 ^ 9 ∧ (heldS dd ss b i).2.natAbs < 2 ^ 9 := by
  obtain ⟨f, p, _⟩ := h.1.held ok
  have f1 := f.1
  have q : (heldS dd ss b i).1 < 512 ∧ (heldS dd ss b i).2 < 512 := by
    cases b with
    | true => exact h.2.1 _ (getD_mem ok)
    | false => exact h.2.2 _ (getD_mem ok)
  have : (2 : Nat) ^ 9 = 512 := rfl
  omega
end Mx
set_option maxRecDepth 100000
set_option maxHeartbeats 4000000
namespace Law
open PySem PySem.Spec PyProof.Rows L2 DL Mx
local macro_rules | `(tactic| walk_at "d") => `(tactic| first
  | with_reducible refine st_seq ?_ | with_reducible refine st_if ?_ | with_reducible refine st_ret ?_ | with_reducible refine st_next ?_
  | with_reducible refine et_or ?_ | with_reducible refine et_and ?_ | with_reducible refine et_not ?_ | with_reducible refine et_test ?_ | with_reducible refine et_B ?_
  | with_reducible refine ev_int ?_ | with_reducible refine ev_bl ?_ | with_reducible refine ev_non ?_ | with_reducible refine ev_str ?_
  | with_reducible refine ev_isiInt ?_ | with_reducible refine ev_isiBool ?_ | with_reducible refine ev_isiTup ?_
  | with_reducible refine ev_andV ?_ | with_reducible refine ev_orV ?_ | with_reducible refine ev_notV ?_ | with_reducible refine ev_if ?_ | with_reducible refine ev_chain ?_ | with_reducible refine ev_tup ?_ | with_reducible refine ev_lst ?_ | refine sz_and (by simp) ?_
  | with_reducible refine ev_op ?_ | with_reducible refine ev_un ?_ | with_reducible refine ev_sl ?_ | refine ev_lenOwn rfl ?_ | with_reducible refine ev_new (en_listQ ?_) | with_reducible refine ev_cb ?_ | with_reducible refine ev_dictD ?_ | with_reducible refine ev_isN ?_
  | with_reducible refine ea_cons ?_ | with_reducible refine ea_nil ?_ | with_reducible refine eo_no ?_ | with_reducible refine eo_some ?_
  | with_reducible refine co_lenT ?_ | with_reducible refine co_lenL ?_ | with_reducible refine co_abs ?_ | with_reducible refine co_int ?_ | with_reducible refine cok_gcd ?_
  | with_reducible refine rok_b0 ?_ | with_reducible refine rok_i0 ?_ | with_reducible refine rok_eqI ?_ | with_reducible refine rok_neI ?_ | with_reducible refine ro_add ?_ | with_reducible refine rok_notB ?_ | with_reducible refine rok_isB ?_
  | with_reducible refine ro_mulL (by decide) (by decide) ?_ | with_reducible refine so_tup ?_ | with_reducible refine so_lst ?_ | with_reducible refine uok_neg ?_
  | with_reducible refine tg_cons ?_ | with_reducible refine tg_nil ?_
  | refine ev_var rfl ?_
  | with_reducible refine ⟨_, rfl, ?_⟩
  | with_reducible refine ⟨_, Or.inl rfl, ?_⟩)
local macro_rules | `(tactic| walk_at "dd") => `(tactic| repeat walk_at "d")
local macro_rules | `(tactic| walk_at "d") => `(tactic| first | with_reducible refine ixf0 ?_ | with_reducible refine ixf1 ?_)
def topS (i : Nat) : Stmt := PySem.Challenge.pw_shaftshakes_k34_whole_boxes_and_their_li.main.body.getD i (.Pass ⟨0, 0, 0, 0⟩)
abbrev s_is_whole : Stmt := topS 6
abbrev N_is_whole : List Str := ["value"]
abbrev p_is_whole : List Str := ["value"]
theorem sc_is_whole : FnScope N_is_whole p_is_whole (defScope s_is_whole) := ⟨rfl, rfl, rfl, by decide +kernel, rfl, by decide +kernel, by decide +kernel⟩
abbrev s_is_fraction : Stmt := topS 7
abbrev N_is_fraction : List Str := ["value", "top", "bottom"]
abbrev p_is_fraction : List Str := ["value"]
theorem sc_is_fraction : FnScope N_is_fraction p_is_fraction (defScope s_is_fraction) := ⟨rfl, rfl, rfl, by decide +kernel, rfl, by decide +kernel, by decide +kernel⟩
abbrev s_sign_of : Stmt := topS 8
abbrev N_sign_of : List Str := ["number"]
abbrev p_sign_of : List Str := ["number"]
theorem sc_sign_of : FnScope N_sign_of p_sign_of (defScope s_sign_of) := ⟨rfl, rfl, rfl, by decide +kernel, rfl, by decide +kernel, by decide +kernel⟩
abbrev s_compare_fractions : Stmt := topS 9
abbrev N_compare_fractions : List Str := ["first", "second"]
abbrev p_compare_fractions : List Str := ["first", "second"]
theorem sc_compare_fractions : FnScope N_compare_fractions p_compare_fractions (defScope s_compare_fractions) := ⟨rfl, rfl, rfl, by decide +kernel, rfl, by decide +kernel, by decide +kernel⟩
abbrev s_is_fraction_from_nought : Stmt := topS 10
abbrev N_is_fraction_from_nought : List Str := ["value"]
abbrev p_is_fraction_from_nought : List Str := ["value"]
theorem sc_is_fraction_from_nought : FnScope N_is_fraction_from_nought p_is_fraction_from_nought (defScope s_is_fraction_from_nought) := ⟨rfl, rfl, rfl, by decide +kernel, rfl, by decide +kernel, by decide +kernel⟩
abbrev s_is_row_of_fractions : Stmt := topS 13
abbrev N_is_row_of_fractions : List Str := ["value", "size", "number"]
abbrev p_is_row_of_fractions : List Str := ["value", "size"]
theorem sc_is_row_of_fractions : FnScope N_is_row_of_fractions p_is_row_of_fractions (defScope s_is_row_of_fractions) := ⟨rfl, rfl, rfl, by decide +kernel, rfl, by decide +kernel, by decide +kernel⟩
abbrev s_is_line : Stmt := topS 14
abbrev N_is_line : List Str := ["value", "discs", "shafts", "number"]
abbrev p_is_line : List Str := ["value"]
theorem sc_is_line : FnScope N_is_line p_is_line (defScope s_is_line) := ⟨rfl, rfl, rfl, by decide +kernel, rfl, by decide +kernel, by decide +kernel⟩
abbrev s_check_line : Stmt := topS 15
abbrev N_check_line : List Str := ["given"]
abbrev p_check_line : List Str := ["given"]
theorem sc_check_line : FnScope N_check_line p_check_line (defScope s_check_line) := ⟨rfl, rfl, rfl, by decide +kernel, rfl, by decide +kernel, by decide +kernel⟩
abbrev s_is_not_above : Stmt := topS 17
abbrev N_is_not_above : List Str := ["row", "other", "first", "second"]
abbrev p_is_not_above : List Str := ["row", "other"]
theorem sc_is_not_above : FnScope N_is_not_above p_is_not_above (defScope s_is_not_above) := ⟨rfl, rfl, rfl, by decide +kernel, rfl, by decide +kernel, by decide +kernel⟩
abbrev s_is_not_faster : Stmt := topS 18
abbrev N_is_not_faster : List Str := ["line", "other"]
abbrev p_is_not_faster : List Str := ["line", "other"]
theorem sc_is_not_faster : FnScope N_is_not_faster p_is_not_faster (defScope s_is_not_faster) := ⟨rfl, rfl, rfl, by decide +kernel, rfl, by decide +kernel, by decide +kernel⟩
abbrev s_is_box : Stmt := topS 19
abbrev N_is_box : List Str := ["value", "slow", "fast"]
abbrev p_is_box : List Str := ["value"]
theorem sc_is_box : FnScope N_is_box p_is_box (defScope s_is_box) := ⟨rfl, rfl, rfl, by decide +kernel, rfl, by decide +kernel, by decide +kernel⟩
abbrev s_check_box : Stmt := topS 20
abbrev N_check_box : List Str := ["given"]
abbrev p_check_box : List Str := ["given"]
theorem sc_check_box : FnScope N_check_box p_check_box (defScope s_check_box) := ⟨rfl, rfl, rfl, by decide +kernel, rfl, by decide +kernel, by decide +kernel⟩
abbrev s_is_in_box : Stmt := topS 21
abbrev N_is_in_box : List Str := ["box", "line"]
abbrev p_is_in_box : List Str := ["box", "line"]
theorem sc_is_in_box : FnScope N_is_in_box p_is_in_box (defScope s_is_in_box) := ⟨rfl, rfl, rfl, by decide +kernel, rfl, by decide +kernel, by decide +kernel⟩
abbrev s__law_spool : Stmt := topS 23
abbrev N__law_spool : List Str := ["_law_script", "_law_lap", "_law_blend", "_law_cell", "_law_great"]
abbrev p__law_spool : List Str := ["_law_script", "_law_lap"]
theorem sc__law_spool : FnScope N__law_spool p__law_spool (defScope s__law_spool) := ⟨rfl, rfl, rfl, by decide +kernel, rfl, by decide +kernel, by decide +kernel⟩
abbrev s__law_wind : Stmt := topS 24
abbrev N__law_wind : List Str := ["_law_spool_here", "_law_size", "_law_found", "_law_turn"]
abbrev p__law_wind : List Str := ["_law_spool_here", "_law_size"]
theorem sc__law_wind : FnScope N__law_wind p__law_wind (defScope s__law_wind) := ⟨rfl, rfl, rfl, by decide +kernel, rfl, by decide +kernel, by decide +kernel⟩
abbrev s__law_any : Stmt := topS 25
abbrev N__law_any : List Str := ["_law_spool_here", "_law_some"]
abbrev p__law_any : List Str := ["_law_spool_here", "_law_some"]
theorem sc__law_any : FnScope N__law_any p__law_any (defScope s__law_any) := ⟨rfl, rfl, rfl, by decide +kernel, rfl, by decide +kernel, by decide +kernel⟩
abbrev s__law_measure : Stmt := topS 26
abbrev N__law_measure : List Str := ["_law_one", "_law_two"]
abbrev p__law_measure : List Str := ["_law_one", "_law_two"]
theorem sc__law_measure : FnScope N__law_measure p__law_measure (defScope s__law_measure) := ⟨rfl, rfl, rfl, by decide +kernel, rfl, by decide +kernel, by decide +kernel⟩
abbrev s__law_frac : Stmt := topS 27
abbrev N__law_frac : List Str := ["_law_n", "_law_m", "_law_by"]
abbrev p__law_frac : List Str := ["_law_n", "_law_m"]
theorem sc__law_frac : FnScope N__law_frac p__law_frac (defScope s__law_frac) := ⟨rfl, rfl, rfl, by decide +kernel, rfl, by decide +kernel, by decide +kernel⟩
abbrev s__law_sum : Stmt := topS 28
abbrev N__law_sum : List Str := ["_law_one", "_law_two"]
abbrev p__law_sum : List Str := ["_law_one", "_law_two"]
theorem sc__law_sum : FnScope N__law_sum p__law_sum (defScope s__law_sum) := ⟨rfl, rfl, rfl, by decide +kernel, rfl, by decide +kernel, by decide +kernel⟩
abbrev s__law_gap : Stmt := topS 29
abbrev N__law_gap : List Str := ["_law_one", "_law_two"]
abbrev p__law_gap : List Str := ["_law_one", "_law_two"]
theorem sc__law_gap : FnScope N__law_gap p__law_gap (defScope s__law_gap) := ⟨rfl, rfl, rfl, by decide +kernel, rfl, by decide +kernel, by decide +kernel⟩
abbrev s__law_prod : Stmt := topS 30
abbrev N__law_prod : List Str := ["_law_one", "_law_two"]
abbrev p__law_prod : List Str := ["_law_one", "_law_two"]
theorem sc__law_prod : FnScope N__law_prod p__law_prod (defScope s__law_prod) := ⟨rfl, rfl, rfl, by decide +kernel, rfl, by decide +kernel, by decide +kernel⟩
abbrev s__law_side : Stmt := topS 31
abbrev N__law_side : List Str := ["_law_number"]
abbrev p__law_side : List Str := ["_law_number"]
theorem sc__law_side : FnScope N__law_side p__law_side (defScope s__law_side) := ⟨rfl, rfl, rfl, by decide +kernel, rfl, by decide +kernel, by decide +kernel⟩
abbrev s__law_beside : Stmt := topS 32
abbrev N__law_beside : List Str := ["_law_one", "_law_two"]
abbrev p__law_beside : List Str := ["_law_one", "_law_two"]
theorem sc__law_beside : FnScope N__law_beside p__law_beside (defScope s__law_beside) := ⟨rfl, rfl, rfl, by decide +kernel, rfl, by decide +kernel, by decide +kernel⟩
abbrev s__law_is_frac : Stmt := topS 33
abbrev N__law_is_frac : List Str := ["_law_told", "_law_each"]
abbrev p__law_is_frac : List Str := ["_law_told"]
theorem sc__law_is_frac : FnScope N__law_is_frac p__law_is_frac (defScope s__law_is_frac) := ⟨rfl, rfl, rfl, by decide +kernel, rfl, by decide +kernel, by decide +kernel⟩
abbrev s__law_amount : Stmt := topS 34
abbrev N__law_amount : List Str := ["_law_spool_here", "_law_wide"]
abbrev p__law_amount : List Str := ["_law_spool_here"]
theorem sc__law_amount : FnScope N__law_amount p__law_amount (defScope s__law_amount) := ⟨rfl, rfl, rfl, by decide +kernel, rfl, by decide +kernel, by decide +kernel⟩
abbrev s__law_end : Stmt := topS 35
abbrev N__law_end : List Str := ["_law_spool_here"]
abbrev p__law_end : List Str := ["_law_spool_here"]
theorem sc__law_end : FnScope N__law_end p__law_end (defScope s__law_end) := ⟨rfl, rfl, rfl, by decide +kernel, rfl, by decide +kernel, by decide +kernel⟩
abbrev s__law_line : Stmt := topS 36
abbrev N__law_line : List Str := ["_law_spool_here", "_law_many", "_law_discs", "_law_shafts", "_law_at"]
abbrev p__law_line : List Str := ["_law_spool_here"]
theorem sc__law_line : FnScope N__law_line p__law_line (defScope s__law_line) := ⟨rfl, rfl, rfl, by decide +kernel, rfl, by decide +kernel, by decide +kernel⟩
abbrev s__law_slots : Stmt := topS 37
abbrev N__law_slots : List Str := ["_law_line_here", "_law_many", "_law_at"]
abbrev p__law_slots : List Str := ["_law_line_here"]
theorem sc__law_slots : FnScope N__law_slots p__law_slots (defScope s__law_slots) := ⟨rfl, rfl, rfl, by decide +kernel, rfl, by decide +kernel, by decide +kernel⟩
abbrev s__law_put : Stmt := topS 38
abbrev N__law_put : List Str := ["_law_line_here", "_law_slot", "_law_amount_here", "_law_discs", "_law_shafts"]
abbrev p__law_put : List Str := ["_law_line_here", "_law_slot", "_law_amount_here"]
theorem sc__law_put : FnScope N__law_put p__law_put (defScope s__law_put) := ⟨rfl, rfl, rfl, by decide +kernel, rfl, by decide +kernel, by decide +kernel⟩
abbrev s__law_held : Stmt := topS 39
abbrev N__law_held : List Str := ["_law_line_here", "_law_slot"]
abbrev p__law_held : List Str := ["_law_line_here", "_law_slot"]
theorem sc__law_held : FnScope N__law_held p__law_held (defScope s__law_held) := ⟨rfl, rfl, rfl, by decide +kernel, rfl, by decide +kernel, by decide +kernel⟩
abbrev s__law_laps : Stmt := topS 40
abbrev N__law_laps : List Str := ["_law_script", "_law_most"]
abbrev p__law_laps : List Str := ["_law_script", "_law_most"]
theorem sc__law_laps : FnScope N__law_laps p__law_laps (defScope s__law_laps) := ⟨rfl, rfl, rfl, by decide +kernel, rfl, by decide +kernel, by decide +kernel⟩
abbrev s__law_pair_box : Stmt := topS 41
abbrev N__law_pair_box : List Str := ["_law_spool_here", "_law_fast", "_law_slow", "_law_many", "_law_slot", "_law_way", "_law_number", "_law_by"]
abbrev p__law_pair_box : List Str := ["_law_spool_here"]
theorem sc__law_pair_box : FnScope N__law_pair_box p__law_pair_box (defScope s__law_pair_box) := ⟨rfl, rfl, rfl, by decide +kernel, rfl, by decide +kernel, by decide +kernel⟩
abbrev s__law_within : Stmt := topS 42
abbrev N__law_within : List Str := ["_law_spool_here", "_law_box", "_law_found", "_law_slot", "_law_low", "_law_high", "_law_part"]
abbrev p__law_within : List Str := ["_law_spool_here", "_law_box"]
theorem sc__law_within : FnScope N__law_within p__law_within (defScope s__law_within) := ⟨rfl, rfl, rfl, by decide +kernel, rfl, by decide +kernel, by decide +kernel⟩
abbrev s__law_is_within : Stmt := topS 43
abbrev N__law_is_within : List Str := ["_law_box", "_law_line_here", "_law_slot", "_law_here", "_law_low", "_law_high"]
abbrev p__law_is_within : List Str := ["_law_box", "_law_line_here"]
theorem sc__law_is_within : FnScope N__law_is_within p__law_is_within (defScope s__law_is_within) := ⟨rfl, rfl, rfl, by decide +kernel, rfl, by decide +kernel, by decide +kernel⟩
abbrev s__law_is_line : Stmt := topS 44
abbrev N__law_is_line : List Str := ["_law_value", "_law_many", "_law_each"]
abbrev p__law_is_line : List Str := ["_law_value"]
theorem sc__law_is_line : FnScope N__law_is_line p__law_is_line (defScope s__law_is_line) := ⟨rfl, rfl, rfl, by decide +kernel, rfl, by decide +kernel, by decide +kernel⟩
abbrev s__law_is_box : Stmt := topS 45
abbrev N__law_is_box : List Str := ["_law_value", "_law_slot", "_law_side_here"]
abbrev p__law_is_box : List Str := ["_law_value"]
theorem sc__law_is_box : FnScope N__law_is_box p__law_is_box (defScope s__law_is_box) := ⟨rfl, rfl, rfl, by decide +kernel, rfl, by decide +kernel, by decide +kernel⟩
abbrev s__law_odd : Stmt := topS 46
abbrev N__law_odd : List Str := ["_law_spool_here", "_law_some"]
abbrev p__law_odd : List Str := ["_law_spool_here"]
theorem sc__law_odd : FnScope N__law_odd p__law_odd (defScope s__law_odd) := ⟨rfl, rfl, rfl, by decide +kernel, rfl, by decide +kernel, by decide +kernel⟩
abbrev s__law_warped : Stmt := topS 47
abbrev N__law_warped : List Str := ["_law_spool_here", "_law_good", "_law_way", "_law_at", "_law_thing"]
abbrev p__law_warped : List Str := ["_law_spool_here", "_law_good"]
theorem sc__law_warped : FnScope N__law_warped p__law_warped (defScope s__law_warped) := ⟨rfl, rfl, rfl, by decide +kernel, rfl, by decide +kernel, by decide +kernel⟩
abbrev s__law_beyond : Stmt := topS 48
abbrev N__law_beyond : List Str := ["_law_spool_here", "_law_box", "_law_line_here", "_law_slot", "_law_number"]
abbrev p__law_beyond : List Str := ["_law_spool_here", "_law_box", "_law_line_here"]
theorem sc__law_beyond : FnScope N__law_beyond p__law_beyond (defScope s__law_beyond) := ⟨rfl, rfl, rfl, by decide +kernel, rfl, by decide +kernel, by decide +kernel⟩
abbrev s__law_right : Stmt := topS 49
abbrev N__law_right : List Str := ["_law_spool_here", "_law_box", "_law_line_here", "_law_each", "_law_due", "_law_some"]
abbrev p__law_right : List Str := ["_law_spool_here"]
theorem sc__law_right : FnScope N__law_right p__law_right (defScope s__law_right) := ⟨rfl, rfl, rfl, by decide +kernel, rfl, by decide +kernel, by decide +kernel⟩
abbrev s_law : Stmt := topS 50
abbrev N_law : List Str := ["_law_script", "_law_lap"]
abbrev p_law : List Str := ["_law_script"]
theorem sc_law : FnScope N_law p_law (defScope s_law) := ⟨rfl, rfl, rfl, by decide +kernel, rfl, by decide +kernel, by decide +kernel⟩
set_option genSizeOf false in
set_option genInjectivity false in
structure Tx (K : PySem.W.Frag) (mg : Str → Option Value) where
  a_is_whole : Addr
  d_is_whole : FuncData
  F_is_whole : Fun K "is_whole" "is_whole" s_is_whole a_is_whole d_is_whole
  g_is_whole : mg "is_whole" = some (.ref a_is_whole)
  a_is_fraction : Addr
  d_is_fraction : FuncData
  F_is_fraction : Fun K "is_fraction" "is_fraction" s_is_fraction a_is_fraction d_is_fraction
  g_is_fraction : mg "is_fraction" = some (.ref a_is_fraction)
  a_sign_of : Addr
  d_sign_of : FuncData
  F_sign_of : Fun K "sign_of" "sign_of" s_sign_of a_sign_of d_sign_of
  g_sign_of : mg "sign_of" = some (.ref a_sign_of)
  a_compare_fractions : Addr
  d_compare_fractions : FuncData
  F_compare_fractions : Fun K "compare_fractions" "compare_fractions" s_compare_fractions a_compare_fractions d_compare_fractions
  g_compare_fractions : mg "compare_fractions" = some (.ref a_compare_fractions)
  a_is_fraction_from_nought : Addr
  d_is_fraction_from_nought : FuncData
  F_is_fraction_from_nought : Fun K "is_fraction_from_nought" "is_fraction_from_nought" s_is_fraction_from_nought a_is_fraction_from_nought d_is_fraction_from_nought
  g_is_fraction_from_nought : mg "is_fraction_from_nought" = some (.ref a_is_fraction_from_nought)
  a_is_row_of_fractions : Addr
  d_is_row_of_fractions : FuncData
  F_is_row_of_fractions : Fun K "is_row_of_fractions" "is_row_of_fractions" s_is_row_of_fractions a_is_row_of_fractions d_is_row_of_fractions
  g_is_row_of_fractions : mg "is_row_of_fractions" = some (.ref a_is_row_of_fractions)
  a_is_line : Addr
  d_is_line : FuncData
  F_is_line : Fun K "is_line" "is_line" s_is_line a_is_line d_is_line
  g_is_line : mg "is_line" = some (.ref a_is_line)
  a_check_line : Addr
  d_check_line : FuncData
  F_check_line : Fun K "check_line" "check_line" s_check_line a_check_line d_check_line
  g_check_line : mg "check_line" = some (.ref a_check_line)
  a_is_not_above : Addr
  d_is_not_above : FuncData
  F_is_not_above : Fun K "is_not_above" "is_not_above" s_is_not_above a_is_not_above d_is_not_above
  g_is_not_above : mg "is_not_above" = some (.ref a_is_not_above)
  a_is_not_faster : Addr
  d_is_not_faster : FuncData
  F_is_not_faster : Fun K "is_not_faster" "is_not_faster" s_is_not_faster a_is_not_faster d_is_not_faster
  g_is_not_faster : mg "is_not_faster" = some (.ref a_is_not_faster)
  a_is_box : Addr
  d_is_box : FuncData
  F_is_box : Fun K "is_box" "is_box" s_is_box a_is_box d_is_box
  g_is_box : mg "is_box" = some (.ref a_is_box)
  a_check_box : Addr
  d_check_box : FuncData
  F_check_box : Fun K "check_box" "check_box" s_check_box a_check_box d_check_box
  g_check_box : mg "check_box" = some (.ref a_check_box)
  a_is_in_box : Addr
  d_is_in_box : FuncData
  F_is_in_box : Fun K "is_in_box" "is_in_box" s_is_in_box a_is_in_box d_is_in_box
  g_is_in_box : mg "is_in_box" = some (.ref a_is_in_box)
  a__law_spool : Addr
  d__law_spool : FuncData
  F__law_spool : Fun K "_law_spool" "_law_spool" s__law_spool a__law_spool d__law_spool
  g__law_spool : mg "_law_spool" = some (.ref a__law_spool)
  a__law_wind : Addr
  d__law_wind : FuncData
  F__law_wind : Fun K "_law_wind" "_law_wind" s__law_wind a__law_wind d__law_wind
  g__law_wind : mg "_law_wind" = some (.ref a__law_wind)
  a__law_any : Addr
  d__law_any : FuncData
  F__law_any : Fun K "_law_any" "_law_any" s__law_any a__law_any d__law_any
  g__law_any : mg "_law_any" = some (.ref a__law_any)
  a__law_measure : Addr
  d__law_measure : FuncData
  F__law_measure : Fun K "_law_measure" "_law_measure" s__law_measure a__law_measure d__law_measure
  g__law_measure : mg "_law_measure" = some (.ref a__law_measure)
  a__law_frac : Addr
  d__law_frac : FuncData
  F__law_frac : Fun K "_law_frac" "_law_frac" s__law_frac a__law_frac d__law_frac
  g__law_frac : mg "_law_frac" = some (.ref a__law_frac)
  a__law_sum : Addr
  d__law_sum : FuncData
  F__law_sum : Fun K "_law_sum" "_law_sum" s__law_sum a__law_sum d__law_sum
  g__law_sum : mg "_law_sum" = some (.ref a__law_sum)
  a__law_gap : Addr
  d__law_gap : FuncData
  F__law_gap : Fun K "_law_gap" "_law_gap" s__law_gap a__law_gap d__law_gap
  g__law_gap : mg "_law_gap" = some (.ref a__law_gap)
  a__law_prod : Addr
  d__law_prod : FuncData
  F__law_prod : Fun K "_law_prod" "_law_prod" s__law_prod a__law_prod d__law_prod
  g__law_prod : mg "_law_prod" = some (.ref a__law_prod)
  a__law_side : Addr
  d__law_side : FuncData
  F__law_side : Fun K "_law_side" "_law_side" s__law_side a__law_side d__law_side
  g__law_side : mg "_law_side" = some (.ref a__law_side)
  a__law_beside : Addr
  d__law_beside : FuncData
  F__law_beside : Fun K "_law_beside" "_law_beside" s__law_beside a__law_beside d__law_beside
  g__law_beside : mg "_law_beside" = some (.ref a__law_beside)
  a__law_is_frac : Addr
  d__law_is_frac : FuncData
  F__law_is_frac : Fun K "_law_is_frac" "_law_is_frac" s__law_is_frac a__law_is_frac d__law_is_frac
  g__law_is_frac : mg "_law_is_frac" = some (.ref a__law_is_frac)
  a__law_amount : Addr
  d__law_amount : FuncData
  F__law_amount : Fun K "_law_amount" "_law_amount" s__law_amount a__law_amount d__law_amount
  g__law_amount : mg "_law_amount" = some (.ref a__law_amount)
  a__law_end : Addr
  d__law_end : FuncData
  F__law_end : Fun K "_law_end" "_law_end" s__law_end a__law_end d__law_end
  g__law_end : mg "_law_end" = some (.ref a__law_end)
  a__law_line : Addr
  d__law_line : FuncData
  F__law_line : Fun K "_law_line" "_law_line" s__law_line a__law_line d__law_line
  g__law_line : mg "_law_line" = some (.ref a__law_line)
  a__law_slots : Addr
  d__law_slots : FuncData
  F__law_slots : Fun K "_law_slots" "_law_slots" s__law_slots a__law_slots d__law_slots
  g__law_slots : mg "_law_slots" = some (.ref a__law_slots)
  a__law_put : Addr
  d__law_put : FuncData
  F__law_put : Fun K "_law_put" "_law_put" s__law_put a__law_put d__law_put
  g__law_put : mg "_law_put" = some (.ref a__law_put)
  a__law_held : Addr
  d__law_held : FuncData
  F__law_held : Fun K "_law_held" "_law_held" s__law_held a__law_held d__law_held
  g__law_held : mg "_law_held" = some (.ref a__law_held)
  a__law_laps : Addr
  d__law_laps : FuncData
  F__law_laps : Fun K "_law_laps" "_law_laps" s__law_laps a__law_laps d__law_laps
  g__law_laps : mg "_law_laps" = some (.ref a__law_laps)
  a__law_pair_box : Addr
  d__law_pair_box : FuncData
  F__law_pair_box : Fun K "_law_pair_box" "_law_pair_box" s__law_pair_box a__law_pair_box d__law_pair_box
  g__law_pair_box : mg "_law_pair_box" = some (.ref a__law_pair_box)
  a__law_within : Addr
  d__law_within : FuncData
  F__law_within : Fun K "_law_within" "_law_within" s__law_within a__law_within d__law_within
  g__law_within : mg "_law_within" = some (.ref a__law_within)
  a__law_is_within : Addr
  d__law_is_within : FuncData
  F__law_is_within : Fun K "_law_is_within" "_law_is_within" s__law_is_within a__law_is_within d__law_is_within
  g__law_is_within : mg "_law_is_within" = some (.ref a__law_is_within)
  a__law_is_line : Addr
  d__law_is_line : FuncData
  F__law_is_line : Fun K "_law_is_line" "_law_is_line" s__law_is_line a__law_is_line d__law_is_line
  g__law_is_line : mg "_law_is_line" = some (.ref a__law_is_line)
  a__law_is_box : Addr
  d__law_is_box : FuncData
  F__law_is_box : Fun K "_law_is_box" "_law_is_box" s__law_is_box a__law_is_box d__law_is_box
  g__law_is_box : mg "_law_is_box" = some (.ref a__law_is_box)
  a__law_odd : Addr
  d__law_odd : FuncData
  F__law_odd : Fun K "_law_odd" "_law_odd" s__law_odd a__law_odd d__law_odd
  g__law_odd : mg "_law_odd" = some (.ref a__law_odd)
  a__law_warped : Addr
  d__law_warped : FuncData
  F__law_warped : Fun K "_law_warped" "_law_warped" s__law_warped a__law_warped d__law_warped
  g__law_warped : mg "_law_warped" = some (.ref a__law_warped)
  a__law_beyond : Addr
  d__law_beyond : FuncData
  F__law_beyond : Fun K "_law_beyond" "_law_beyond" s__law_beyond a__law_beyond d__law_beyond
  g__law_beyond : mg "_law_beyond" = some (.ref a__law_beyond)
  a__law_right : Addr
  d__law_right : FuncData
  F__law_right : Fun K "_law_right" "_law_right" s__law_right a__law_right d__law_right
  g__law_right : mg "_law_right" = some (.ref a__law_right)
  a_law : Addr
  d_law : FuncData
  F_law : Fun K "law" "law" s_law a_law d_law
  g_law : mg "law" = some (.ref a_law)
  t_MOST_DISCS : Tok
  c_MOST_DISCS : mg "MOST_DISCS" = some (.int 8 t_MOST_DISCS)
  n_abs : mg "abs" = none
  n_all : mg "all" = none
  n_bool : mg "bool" = none
  n_divmod : mg "divmod" = none
  l_gcd : mg "gcd" = some (.builtin "math.gcd")
  n_int : mg "int" = none
  n_isinstance : mg "isinstance" = none
  n_len : mg "len" = none
  n_list : mg "list" = none
  n_max : mg "max" = none
  n_min : mg "min" = none
  n_range : mg "range" = none
  n_repr : mg "repr" = none
  n_tuple : mg "tuple" = none
  n_zip : mg "zip" = none
section
variable {P : Program} {w : World} {K : PySem.W.Frag} {mg : Str → Option Value} {base : Heap}
theorem b_is_whole (T : Tx K mg) : Binds K T.d_is_whole p_is_whole [] := T.F_is_whole.binds (ps := p_is_whole) fun _ _ _ _ _ _ us hl => match us, hl with | [_], _ => rfl
theorem b_is_fraction (T : Tx K mg) : Binds K T.d_is_fraction p_is_fraction [] := T.F_is_fraction.binds (ps := p_is_fraction) fun _ _ _ _ _ _ us hl => match us, hl with | [_], _ => rfl
theorem b_sign_of (T : Tx K mg) : Binds K T.d_sign_of p_sign_of [] := T.F_sign_of.binds (ps := p_sign_of) fun _ _ _ _ _ _ us hl => match us, hl with | [_], _ => rfl
theorem b_compare_fractions (T : Tx K mg) : Binds K T.d_compare_fractions p_compare_fractions [] := T.F_compare_fractions.binds (ps := p_compare_fractions) fun _ _ _ _ _ _ us hl => match us, hl with | [_, _], _ => rfl
theorem b_is_fraction_from_nought (T : Tx K mg) : Binds K T.d_is_fraction_from_nought p_is_fraction_from_nought [] := T.F_is_fraction_from_nought.binds (ps := p_is_fraction_from_nought) fun _ _ _ _ _ _ us hl => match us, hl with | [_], _ => rfl
theorem b_is_row_of_fractions (T : Tx K mg) : Binds K T.d_is_row_of_fractions p_is_row_of_fractions [] := T.F_is_row_of_fractions.binds (ps := p_is_row_of_fractions) fun _ _ _ _ _ _ us hl => match us, hl with | [_, _], _ => rfl
theorem b_is_line (T : Tx K mg) : Binds K T.d_is_line p_is_line [] := T.F_is_line.binds (ps := p_is_line) fun _ _ _ _ _ _ us hl => match us, hl with | [_], _ => rfl
theorem b_check_line (T : Tx K mg) : Binds K T.d_check_line p_check_line [] := T.F_check_line.binds (ps := p_check_line) fun _ _ _ _ _ _ us hl => match us, hl with | [_], _ => rfl
theorem b_is_not_above (T : Tx K mg) : Binds K T.d_is_not_above p_is_not_above [] := T.F_is_not_above.binds (ps := p_is_not_above) fun _ _ _ _ _ _ us hl => match us, hl with | [_, _], _ => rfl
theorem b_is_not_faster (T : Tx K mg) : Binds K T.d_is_not_faster p_is_not_faster [] := T.F_is_not_faster.binds (ps := p_is_not_faster) fun _ _ _ _ _ _ us hl => match us, hl with | [_, _], _ => rfl
theorem b_is_box (T : Tx K mg) : Binds K T.d_is_box p_is_box [] := T.F_is_box.binds (ps := p_is_box) fun _ _ _ _ _ _ us hl => match us, hl with | [_], _ => rfl
theorem kb_is_box (T : Tx K mg) : KBinds K T.d_is_box p_is_box p_is_box gK gKV := Fun.kbinds T.F_is_box (by decide) fun _ _ _ _ _ _ us hl => match us, hl with | [_], _ => rfl
theorem b_check_box (T : Tx K mg) : Binds K T.d_check_box p_check_box [] := T.F_check_box.binds (ps := p_check_box) fun _ _ _ _ _ _ us hl => match us, hl with | [_], _ => rfl
theorem b_is_in_box (T : Tx K mg) : Binds K T.d_is_in_box p_is_in_box [] := T.F_is_in_box.binds (ps := p_is_in_box) fun _ _ _ _ _ _ us hl => match us, hl with | [_, _], _ => rfl
theorem b__law_spool (T : Tx K mg) : Binds K T.d__law_spool p__law_spool [] := T.F__law_spool.binds (ps := p__law_spool) fun _ _ _ _ _ _ us hl => match us, hl with | [_, _], _ => rfl
theorem b__law_wind (T : Tx K mg) : Binds K T.d__law_wind p__law_wind [] := T.F__law_wind.binds (ps := p__law_wind) fun _ _ _ _ _ _ us hl => match us, hl with | [_, _], _ => rfl
theorem b__law_any (T : Tx K mg) : Binds K T.d__law_any p__law_any [] := T.F__law_any.binds (ps := p__law_any) fun _ _ _ _ _ _ us hl => match us, hl with | [_, _], _ => rfl
theorem b__law_measure (T : Tx K mg) : Binds K T.d__law_measure p__law_measure [] := T.F__law_measure.binds (ps := p__law_measure) fun _ _ _ _ _ _ us hl => match us, hl with | [_, _], _ => rfl
theorem b__law_frac (T : Tx K mg) : Binds K T.d__law_frac p__law_frac [] := T.F__law_frac.binds (ps := p__law_frac) fun _ _ _ _ _ _ us hl => match us, hl with | [_, _], _ => rfl
theorem b__law_sum (T : Tx K mg) : Binds K T.d__law_sum p__law_sum [] := T.F__law_sum.binds (ps := p__law_sum) fun _ _ _ _ _ _ us hl => match us, hl with | [_, _], _ => rfl
theorem b__law_gap (T : Tx K mg) : Binds K T.d__law_gap p__law_gap [] := T.F__law_gap.binds (ps := p__law_gap) fun _ _ _ _ _ _ us hl => match us, hl with | [_, _], _ => rfl
theorem b__law_prod (T : Tx K mg) : Binds K T.d__law_prod p__law_prod [] := T.F__law_prod.binds (ps := p__law_prod) fun _ _ _ _ _ _ us hl => match us, hl with | [_, _], _ => rfl
theorem b__law_side (T : Tx K mg) : Binds K T.d__law_side p__law_side [] := T.F__law_side.binds (ps := p__law_side) fun _ _ _ _ _ _ us hl => match us, hl with | [_], _ => rfl
theorem b__law_beside (T : Tx K mg) : Binds K T.d__law_beside p__law_beside [] := T.F__law_beside.binds (ps := p__law_beside) fun _ _ _ _ _ _ us hl => match us, hl with | [_, _], _ => rfl
theorem b__law_is_frac (T : Tx K mg) : Binds K T.d__law_is_frac p__law_is_frac [] := T.F__law_is_frac.binds (ps := p__law_is_frac) fun _ _ _ _ _ _ us hl => match us, hl with | [_], _ => rfl
theorem b__law_amount (T : Tx K mg) : Binds K T.d__law_amount p__law_amount [] := T.F__law_amount.binds (ps := p__law_amount) fun _ _ _ _ _ _ us hl => match us, hl with | [_], _ => rfl
theorem b__law_end (T : Tx K mg) : Binds K T.d__law_end p__law_end [] := T.F__law_end.binds (ps := p__law_end) fun _ _ _ _ _ _ us hl => match us, hl with | [_], _ => rfl
theorem b__law_line (T : Tx K mg) : Binds K T.d__law_line p__law_line [] := T.F__law_line.binds (ps := p__law_line) fun _ _ _ _ _ _ us hl => match us, hl with | [_], _ => rfl
theorem b__law_slots (T : Tx K mg) : Binds K T.d__law_slots p__law_slots [] := T.F__law_slots.binds (ps := p__law_slots) fun _ _ _ _ _ _ us hl => match us, hl with | [_], _ => rfl
theorem b__law_put (T : Tx K mg) : Binds K T.d__law_put p__law_put [] := T.F__law_put.binds (ps := p__law_put) fun _ _ _ _ _ _ us hl => match us, hl with | [_, _, _], _ => rfl
theorem b__law_held (T : Tx K mg) : Binds K T.d__law_held p__law_held [] := T.F__law_held.binds (ps := p__law_held) fun _ _ _ _ _ _ us hl => match us, hl with | [_, _], _ => rfl
theorem b__law_laps (T : Tx K mg) : Binds K T.d__law_laps p__law_laps [] := T.F__law_laps.binds (ps := p__law_laps) fun _ _ _ _ _ _ us hl => match us, hl with | [_, _], _ => rfl
theorem b__law_pair_box (T : Tx K mg) : Binds K T.d__law_pair_box p__law_pair_box [] := T.F__law_pair_box.binds (ps := p__law_pair_box) fun _ _ _ _ _ _ us hl => match us, hl with | [_], _ => rfl
theorem b__law_within (T : Tx K mg) : Binds K T.d__law_within p__law_within [] := T.F__law_within.binds (ps := p__law_within) fun _ _ _ _ _ _ us hl => match us, hl with | [_, _], _ => rfl
theorem b__law_is_within (T : Tx K mg) : Binds K T.d__law_is_within p__law_is_within [] := T.F__law_is_within.binds (ps := p__law_is_within) fun _ _ _ _ _ _ us hl => match us, hl with | [_, _], _ => rfl
theorem b__law_is_line (T : Tx K mg) : Binds K T.d__law_is_line p__law_is_line [] := T.F__law_is_line.binds (ps := p__law_is_line) fun _ _ _ _ _ _ us hl => match us, hl with | [_], _ => rfl
theorem b__law_is_box (T : Tx K mg) : Binds K T.d__law_is_box p__law_is_box [] := T.F__law_is_box.binds (ps := p__law_is_box) fun _ _ _ _ _ _ us hl => match us, hl with | [_], _ => rfl
theorem b__law_odd (T : Tx K mg) : Binds K T.d__law_odd p__law_odd [] := T.F__law_odd.binds (ps := p__law_odd) fun _ _ _ _ _ _ us hl => match us, hl with | [_], _ => rfl
theorem b__law_warped (T : Tx K mg) : Binds K T.d__law_warped p__law_warped [] := T.F__law_warped.binds (ps := p__law_warped) fun _ _ _ _ _ _ us hl => match us, hl with | [_, _], _ => rfl
theorem b__law_beyond (T : Tx K mg) : Binds K T.d__law_beyond p__law_beyond [] := T.F__law_beyond.binds (ps := p__law_beyond) fun _ _ _ _ _ _ us hl => match us, hl with | [_, _, _], _ => rfl
theorem b__law_right (T : Tx K mg) : Binds K T.d__law_right p__law_right [] := T.F__law_right.binds (ps := p__law_right) fun _ _ _ _ _ _ us hl => match us, hl with | [_], _ => rfl
theorem kb_is_in_box_0 (T : Tx K mg) : KBinds K T.d_is_in_box p_is_in_box ["line", "box"] (gP 0 2 [1, 0]) (gPV 0 2 [1, 0]) := Fun.kbindsP T.F_is_in_box (by decide) 0 2 [1, 0] fun _ _ _ _ _ _ us ws h1 h2 => match us, ws, h1, h2 with | [], [_, _], _, _ => rfl
/-! ### is_whole -/
def isWholeD : PyData → Bool
  | .int _ => true
  | _ => false
theorem isWholeD_true {d : PyData} (h : isWholeD d = true) : ∃ i, d = .int i := by
  cases d <;> simp [isWholeD] at h
  exact ⟨_, rfl⟩
def pre_is_whole : List PyData → Prop := fun ds => ∃ v, ds = [v]
def post_is_whole : List PyData → PyData → Prop := fun ds d => ∃ v, ds = [v] ∧ d = .bool (isWholeD v)
abbrev sp_is_whole (K : PySem.W.Frag) : Sp := SpP K pre_is_whole post_is_whole
theorem len_is_whole (K : PySem.W.Frag) (vs : List V) (H : Hp) (Q : VK) (E : XK) (h : sp_is_whole K vs H Q E) : vs.length = p_is_whole.length := len_P (n := 1) h fun ds hp => by
  obtain ⟨v, e⟩ := hp
  rw [e]; rfl
def t_is_whole (K : PySem.W.Frag) : TS :=
  (tRet (tAndV (tCB (rIsi K) (tCons (tVar 0) (tCons (tC (.ty "int")) tNil))) (tNotV (tCB (rIsi K) (tCons (tVar 0) (tCons (tC (.ty "bool")) tNil))))))
theorem pure_is_whole (K : PySem.W.Frag) (vs : List V) (H : Hp) (Q : VK) (E : XK) (h : sp_is_whole K vs H Q E) : t_is_whole K { nx := fun _ H' => Q .non H', rt := Q } (L2.start N_is_whole vs) H := body_P h fun B ds hW hp => by
  obtain ⟨v, e⟩ := hp
  subst e
  unfold t_is_whole
  refine st_ret (ev_andV (ev_isiInt (ev_var rfl ⟨_, rfl, fun hb => ?_, fun hb => ⟨_, rfl, ?_⟩⟩)))
  · refine ev_notV (ev_isiBool (ev_var rfl ⟨_, rfl, _, rfl, ?_⟩))
    cases v <;> simp_all [isIntT, isBoolT, isWholeD]
  · cases v <;> simp_all [isIntT, isBoolT, isWholeD]
theorem ok_is_whole (T : Tx K mg) : FnOk P w K mg base CX0 1 T.a_is_whole T.d_is_whole p_is_whole (sp_is_whole K) := by
  refine T.F_is_whole.ok sc_is_whole (fun vs H Q E h => len_is_whole K vs H Q E h) (fun cdv A outer s H vs Q E hr h => ?_)
  exact ⟨t_is_whole K, (pss_one (ps_ret (pe_and (pe_callB call_isi (by rfl) T.n_isinstance (by decide +kernel) (pa_cons (pv 0) (pa_cons (pe_bltn (v := .ty "int") (by rfl) T.n_int (by decide +kernel) rfl) pa_nil))) (pe_one (pe_not (pe_callB call_isi (by rfl) T.n_isinstance (by decide +kernel) (pa_cons (pv 0) (pa_cons (pe_bltn (v := .ty "bool") (by rfl) T.n_bool (by decide +kernel) rfl) pa_nil)))))))), pure_is_whole K vs H Q E h⟩
/-! ### is_fraction -/
def isPairD : PyData → PyData → Bool
  | .int n, .int m => decide (0 < m) && decide (((Nat.gcd n.natAbs m.natAbs : Nat) : Int) = 1)
  | _, _ => false
def isTwoD : List PyData → Bool
  | [x, y] => isPairD x y
  | _ => false
def isFracD : PyData → Bool
  | .tuple ds => isTwoD ds
  | _ => false
theorem isFrac_len {xs : List PyData} (h : xs.length ≠ 2) : isFracD (.tuple xs) = false := by
  match xs with
  | [] => rfl
  | [a] => rfl
  | [a, b] => exact absurd rfl h
  | a :: b :: c :: r => rfl
theorem isFracD_true {d : PyData} (h : isFracD d = true) : ∃ n m : Int, d = .tuple [.int n, .int m] ∧ 0 < m ∧ Nat.gcd n.natAbs m.natAbs = 1 := by
  cases d with
  | tuple ds =>
    match ds with
    | [] => cases h
    | [a] => cases h
    | a :: b :: c :: r => cases h
    | [a, b] =>
      cases a with
      | int n =>
        cases b with
        | int m =>
          have h2 : (decide (0 < m) && decide (((Nat.gcd n.natAbs m.natAbs : Nat) : Int) = 1)) = true := h
          rw [Bool.and_eq_true] at h2
          have h3 := of_decide_eq_true h2.1
          have h4 := of_decide_eq_true h2.2
          exact ⟨n, m, rfl, h3, by omega⟩
        | _ => cases h
      | _ => cases b <;> cases h
  | _ => cases h
def pre_is_fraction : List PyData → Prop := fun ds => ∃ v, ds = [v]
def post_is_fraction : List PyData → PyData → Prop := fun ds d => ∃ v, ds = [v] ∧ d = .bool (isFracD v)
abbrev sp_is_fraction (K : PySem.W.Frag) : Sp := SpP K pre_is_fraction post_is_fraction
theorem len_is_fraction (K : PySem.W.Frag) (vs : List V) (H : Hp) (Q : VK) (E : XK) (h : sp_is_fraction K vs H Q E) : vs.length = p_is_fraction.length := len_P (n := 1) h fun ds hp => by
  obtain ⟨v, e⟩ := hp
  rw [e]; rfl
def t_is_fraction (K : PySem.W.Frag) : TS :=
  (tSeq (tIfS (tOr (tNot (tB (tCB (rIsi K) (tCons (tVar 0) (tCons (tC (.ty "tuple")) tNil))))) (tTest (tOp rNe (tCB (rLenQ K) (tCons (tVar 0) tNil)) (tC (.int 2))))) (tRet (tC (.bl false))) tNext)
  (tSeq (tAsg (tVar 0) (gTup K 2 (gCons (gName 1) (gCons (gName 2) gNil))))
  (tSeq (tIfS (tOr (tNot (tB (tCall (sp_is_whole K) [] E0 (tCons (tVar 1) tNil)))) (tNot (tB (tCall (sp_is_whole K) [] E0 (tCons (tVar 2) tNil))))) (tRet (tC (.bl false))) tNext)
  (tRet (tAndV (tOp (rI0 fun i j => .bl (decide (j < i))) (tVar 2) (tC (.int 0))) (tOp rEq (tCB rGcd (tCons (tVar 1) (tCons (tVar 2) tNil))) (tC (.int 1))))))))
theorem pure_is_fraction (K : PySem.W.Frag) (vs : List V) (H : Hp) (Q : VK) (E : XK) (h : sp_is_fraction K vs H Q E) : t_is_fraction K { nx := fun _ H' => Q .non H', rt := Q } (L2.start N_is_fraction vs) H := body_P h fun B ds hW hp => by
  obtain ⟨v, e⟩ := hp
  subst e
  unfold t_is_fraction
  refine st_seq (st_if (et_or (et_not (et_B (ev_isiTup (ev_var rfl ⟨_, rfl, fun hb => ?_, fun hb => ⟨fun _ => ?_, fun z => nomatch z⟩⟩))))))
  · obtain ⟨xs, rfl⟩ := isTupT_true (d := v) (by simpa using hb)
    refine et_test (ev_op (ev_cb (ea_cons (ev_var rfl (ea_nil (co_lenT (ev_int (rok_neI ⟨_, rfl, fun hb => ?_, fun hb => ?_⟩))))))))
    · refine st_ret (ev_bl ⟨_, rfl, ?_⟩)
      rw [isFrac_len]
      intro z
      rw [z] at hb
      cases hb
    · have hl : xs.length = 2 := by
        simp at hb
        omega
      obtain ⟨a, b, rfl⟩ : ∃ a b, xs = [a, b] := by
        match xs, hl with
        | [a, b], _ => exact ⟨a, b, rfl⟩
      refine st_next (st_seq (st_unpack (ev_var rfl ⟨_, rfl, rfl, tg_cons (tg_cons (tg_nil ?_))⟩)))
      refine st_seq (st_if (et_or (et_not (et_B (ev_callP (ea_cons (ev_var rfl (ea_nil ⟨⟨_, rfl⟩, fun d ⟨v, ev, ed⟩ => ?_⟩))))))))
      cases ev
      refine ⟨_, ed, fun hb => ?_, fun hb => ⟨fun _ => ?_, fun z => nomatch z⟩⟩
      · obtain ⟨n, rfl⟩ := isWholeD_true (d := a) (by simpa using hb)
        refine et_not (et_B (ev_callP (ea_cons (ev_var rfl (ea_nil ⟨⟨_, rfl⟩, fun d ⟨v, ev, ed⟩ => ?_⟩)))))
        cases ev
        refine ⟨_, ed, fun hb2 => ?_, fun hb2 => ?_⟩
        · refine st_ret (ev_bl ⟨_, rfl, ?_⟩)
          cases b <;> first | rfl | cases hb2
        · obtain ⟨m, rfl⟩ := isWholeD_true (d := b) (by simpa using hb2)
          refine st_next (st_ret (ev_andV (ev_op (ev_var rfl (ev_int (rok_b0 ⟨_, rfl, fun hb3 => ?_, fun hb3 => ?_⟩))))))
          · refine ev_op (ev_cb (ea_cons (ev_var rfl (ea_cons (ev_var rfl (ea_nil (cok_gcd (ev_int (rok_eqI ⟨_, rfl, ?_⟩)))))))))
            show _ = PyData.bool (decide (0 < m) && decide (((Nat.gcd n.natAbs m.natAbs : Nat) : Int) = 1))
            rw [hb3, Bool.true_and]
          · refine ⟨_, rfl, ?_⟩
            show _ = PyData.bool (decide (0 < m) && decide (((Nat.gcd n.natAbs m.natAbs : Nat) : Int) = 1))
            rw [hb3, Bool.false_and]
      · refine st_ret (ev_bl ⟨_, rfl, ?_⟩)
        cases a <;> first | rfl | cases hb
  · refine st_ret (ev_bl ⟨_, rfl, ?_⟩)
    cases v <;> first | rfl | cases hb
theorem ok_is_fraction (T : Tx K mg) : FnOk P w K mg base CX0 2 T.a_is_fraction T.d_is_fraction p_is_fraction (sp_is_fraction K) := by
  refine T.F_is_fraction.ok sc_is_fraction (fun vs H Q E h => len_is_fraction K vs H Q E h) (fun cdv A outer s H vs Q E hr h => ?_)
  exact ⟨t_is_fraction K, (pss_cons (ps_if (PW.pt (pw_or (pt_not (pt_val (pe_callB call_isi (by rfl) T.n_isinstance (by decide +kernel) (pa_cons (pv 0) (pa_cons (pe_bltn (v := .ty "tuple") (by rfl) T.n_tuple (by decide +kernel) rfl) pa_nil))))) (pw_or1 (pt_cmpR op_ne (pe_callB call_len_seq (by rfl) T.n_len (by decide +kernel) (pa_cons (pv 0) pa_nil)) pe_int (nomark _))))) (pss_one (ps_ret pe_bl)) pss_nil)
  (pss_cons (ps_asg (pv 0) (pg_tup (by rfl) (pgs_cons (pg_name (i := 1) sc_is_fraction.nd rfl (Or.inl rfl)) (pgs_cons (pg_name (i := 2) sc_is_fraction.nd rfl (Or.inl rfl)) pgs_nil))))
  (pss_cons (ps_if (PW.pt (pw_or (pt_not (pt_val (pe_call (ok_is_whole T) (hr.mono (by decide)) rfl T.g_is_whole T.F_is_whole.kp (b_is_whole T) .nil pass0 (pa_cons (pv 1) pa_nil)))) (pw_or1 (pt_not (pt_val (pe_call (ok_is_whole T) (hr.mono (by decide)) rfl T.g_is_whole T.F_is_whole.kp (b_is_whole T) .nil pass0 (pa_cons (pv 2) pa_nil))))))) (pss_one (ps_ret pe_bl)) pss_nil)
  (pss_one (ps_ret (pe_and (pe_cmpR op_gt (pv 2) pe_int (nomark _)) (pe_one (pe_cmpR op_eq (pe_callBfun cr_gcd (by rfl) T.l_gcd (pa_cons (pv 1) (pa_cons (pv 2) pa_nil))) pe_int (nomark _))))))))), pure_is_fraction K vs H Q E h⟩
/-! ### sign_of -/

def pre_sign_of : List PyData → Prop := fun ds => ∃ n : Int, ds = [.int n]
def post_sign_of : List PyData → PyData → Prop := fun ds d => ∃ n : Int, ds = [.int n] ∧ d = .int (sgn n)
abbrev sp_sign_of (K : PySem.W.Frag) : Sp := SpP K pre_sign_of post_sign_of
theorem len_sign_of (K : PySem.W.Frag) (vs : List V) (H : Hp) (Q : VK) (E : XK) (h : sp_sign_of K vs H Q E) : vs.length = p_sign_of.length := len_P (n := 1) h fun ds hp => by
  obtain ⟨n, e⟩ := hp
  rw [e]; rfl
def t_sign_of (K : PySem.W.Frag) : TS :=
  (tSeq (tIfS (tTest (tOp (rI0 fun i j => .bl (decide (j < i))) (tVar 0) (tC (.int 0)))) (tRet (tC (.int 1))) tNext)
  (tSeq (tIfS (tTest (tOp (rI0 fun i j => .bl (decide (i < j))) (tVar 0) (tC (.int 0)))) (tRet (tUn (rU fun i => .int (-i)) (tC (.int 1)))) tNext)
  (tRet (tC (.int 0)))))
theorem pure_sign_of (K : PySem.W.Frag) (vs : List V) (H : Hp) (Q : VK) (E : XK) (h : sp_sign_of K vs H Q E) : t_sign_of K { nx := fun _ H' => Q .non H', rt := Q } (L2.start N_sign_of vs) H := body_P h fun B ds hW hp => by
  obtain ⟨n, e⟩ := hp
  subst e
  unfold t_sign_of
  refine st_seq (st_if ?_)
  walk_at "dd"
  refine ⟨fun hb => ?_, fun hb => ?_⟩
  · refine st_ret (ev_int ⟨n, rfl, ?_⟩)
    unfold sgn
    rw [if_pos (of_decide_eq_true hb)]
  · refine st_next (st_seq (st_if ?_))
    walk_at "dd"
    refine ⟨fun hb2 => ?_, fun hb2 => ?_⟩
    · walk_at "dd"
      refine ⟨n, rfl, ?_⟩
      unfold sgn
      rw [if_neg (of_decide_eq_false hb), if_pos (of_decide_eq_true hb2)]
    · refine st_next (st_ret (ev_int ⟨n, rfl, ?_⟩))
      unfold sgn
      rw [if_neg (of_decide_eq_false hb), if_neg (of_decide_eq_false hb2)]
theorem ok_sign_of (T : Tx K mg) : FnOk P w K mg base CX0 1 T.a_sign_of T.d_sign_of p_sign_of (sp_sign_of K) := by
  refine T.F_sign_of.ok sc_sign_of (fun vs H Q E h => len_sign_of K vs H Q E h) (fun cdv A outer s H vs Q E hr h => ?_)
  exact ⟨t_sign_of K, (pss_cons (ps_if (pt_cmpR op_gt (pv 0) pe_int (nomark _)) (pss_one (ps_ret pe_int)) pss_nil)
  (pss_cons (ps_if (pt_cmpR op_lt (pv 0) pe_int (nomark _)) (pss_one (ps_ret (pe_un un_neg pe_int))) pss_nil)
  (pss_one (ps_ret pe_int)))), pure_sign_of K vs H Q E h⟩
/-! ### compare_fractions -/

def pre_compare_fractions : List PyData → Prop := fun ds => ∃ x y : Fr, ds = [frD x, frD y] ∧ Sm x ∧ Sm y
def post_compare_fractions : List PyData → PyData → Prop := fun ds d => ∃ x y : Fr, ds = [frD x, frD y] ∧ d = .int (rsgn (val x - val y))
abbrev sp_compare_fractions (K : PySem.W.Frag) : Sp := SpP K pre_compare_fractions post_compare_fractions
theorem len_compare_fractions (K : PySem.W.Frag) (vs : List V) (H : Hp) (Q : VK) (E : XK) (h : sp_compare_fractions K vs H Q E) : vs.length = p_compare_fractions.length := len_P (n := 2) h fun ds hp => by
  obtain ⟨x, y, e, hx, hy⟩ := hp
  rw [e]; rfl
def t_compare_fractions (K : PySem.W.Frag) : TS :=
  (tRet (tCall (sp_sign_of K) [] E0 (tCons (tOp (rI0 fun i j => .int (i - j)) (tOp (rMulA K) (tOp (rIx K) (tVar 0) (tC (.int 0))) (tOp (rIx K) (tVar 1) (tC (.int 1)))) (tOp (rMulA K) (tOp (rIx K) (tVar 1) (tC (.int 0))) (tOp (rIx K) (tVar 0) (tC (.int 1))))) tNil)))
theorem pure_compare_fractions (K : PySem.W.Frag) (vs : List V) (H : Hp) (Q : VK) (E : XK) (h : sp_compare_fractions K vs H Q E) : t_compare_fractions K { nx := fun _ H' => Q .non H', rt := Q } (L2.start N_compare_fractions vs) H := body_P h fun B ds hW hp => by
  obtain ⟨x, y, e, hx, hy⟩ := hp
  subst e
  unfold t_compare_fractions
  obtain ⟨x1, x2, x3⟩ := hx
  obtain ⟨y1, y2, y3⟩ := hy
  have nx := ratInt_ne (a := x.2) (by omega)
  have ny := ratInt_ne (a := y.2) (by omega)
  refine st_ret (ev_callP ?_)
  walk_at "dd"
  refine ro_mulW (mulW_of x2 y3 (by decide)) ?_
  walk_at "dd"
  refine ro_mulW (mulW_of y2 x3 (by decide)) ?_
  walk_at "dd"
  refine ⟨⟨_, rfl⟩, fun d ⟨n, en, ed⟩ => ?_⟩
  simp only [List.cons.injEq, PyData.int.injEq, and_true] at en
  subst en
  refine ⟨x, y, rfl, ?_⟩
  rw [ed, ← side_sgn x1 y1]
theorem ok_compare_fractions (T : Tx K mg) : FnOk P w K mg base CX0 2 T.a_compare_fractions T.d_compare_fractions p_compare_fractions (sp_compare_fractions K) := by
  refine T.F_compare_fractions.ok sc_compare_fractions (fun vs H Q E h => len_compare_fractions K vs H Q E h) (fun cdv A outer s H vs Q E hr h => ?_)
  exact ⟨t_compare_fractions K, (pss_one (ps_ret (pe_call (ok_sign_of T) (hr.mono (by decide)) rfl T.g_sign_of T.F_sign_of.kp (b_sign_of T) .nil pass0 (pa_cons (pe_op op_sub (pe_op op_mulA (pe_ix ix_seq (pv 0) pe_int (fun _ _ => rfl)) (pe_ix ix_seq (pv 1) pe_int (fun _ _ => rfl))) (pe_op op_mulA (pe_ix ix_seq (pv 1) pe_int (fun _ _ => rfl)) (pe_ix ix_seq (pv 0) pe_int (fun _ _ => rfl)))) pa_nil)))), pure_compare_fractions K vs H Q E h⟩
/-! ### is_fraction_from_nought -/
def numD : PyData → Int
  | .tuple (.int n :: _) => n
  | _ => 0
def isRowItem (d : PyData) : Bool := isFracD d && decide (0 ≤ numD d)
def isRowD (v : PyData) (n : Int) : Bool := match v with
  | .tuple xs => decide ((xs.length : Int) = n) && xs.all isRowItem
  | _ => false

def pre_is_fraction_from_nought : List PyData → Prop := fun ds => ∃ v, ds = [v]
def post_is_fraction_from_nought : List PyData → PyData → Prop := fun ds d => ∃ v, ds = [v] ∧ d = .bool (isRowItem v)
abbrev sp_is_fraction_from_nought (K : PySem.W.Frag) : Sp := SpP K pre_is_fraction_from_nought post_is_fraction_from_nought
theorem len_is_fraction_from_nought (K : PySem.W.Frag) (vs : List V) (H : Hp) (Q : VK) (E : XK) (h : sp_is_fraction_from_nought K vs H Q E) : vs.length = p_is_fraction_from_nought.length := len_P (n := 1) h fun ds hp => by
  obtain ⟨v, e⟩ := hp
  rw [e]; rfl
def t_is_fraction_from_nought (K : PySem.W.Frag) : TS :=
  (tRet (tAndV (tCall (sp_is_fraction K) [] E0 (tCons (tVar 0) tNil)) (tOp (rI0 fun i j => .bl (decide (j ≤ i))) (tOp (rIx K) (tVar 0) (tC (.int 0))) (tC (.int 0)))))
theorem pure_is_fraction_from_nought (K : PySem.W.Frag) (vs : List V) (H : Hp) (Q : VK) (E : XK) (h : sp_is_fraction_from_nought K vs H Q E) : t_is_fraction_from_nought K { nx := fun _ H' => Q .non H', rt := Q } (L2.start N_is_fraction_from_nought vs) H := body_P h fun B ds hW hp => by
  obtain ⟨v, e⟩ := hp
  subst e
  unfold t_is_fraction_from_nought
  refine st_ret (ev_andV (ev_callP (ea_cons (ev_var rfl (ea_nil ⟨⟨_, rfl⟩, fun d ⟨v', ev, ed⟩ => ?_⟩)))))
  cases ev
  refine ⟨_, ed, fun hb => ?_, fun hb => ⟨_, rfl, ?_⟩⟩
  · obtain ⟨p, q, rfl, hq, hg⟩ := isFracD_true hb
    refine ev_op (ev_op (ev_var rfl (ev_int (rok_ixsT (d := .int p) rfl (ev_int (rok_b0 ⟨_, rfl, ?_⟩))))))
    show _ = PyData.bool (isFracD (.tuple [.int p, .int q]) && decide (0 ≤ p))
    rw [hb, Bool.true_and]
  · show _ = PyData.bool (isFracD v && decide (0 ≤ numD v))
    rw [hb]
    rfl
theorem ok_is_fraction_from_nought (T : Tx K mg) : FnOk P w K mg base CX0 3 T.a_is_fraction_from_nought T.d_is_fraction_from_nought p_is_fraction_from_nought (sp_is_fraction_from_nought K) := by
  refine T.F_is_fraction_from_nought.ok sc_is_fraction_from_nought (fun vs H Q E h => len_is_fraction_from_nought K vs H Q E h) (fun cdv A outer s H vs Q E hr h => ?_)
  exact ⟨t_is_fraction_from_nought K, (pss_one (ps_ret (pe_and (pe_call (ok_is_fraction T) (hr.mono (by decide)) rfl T.g_is_fraction T.F_is_fraction.kp (b_is_fraction T) .nil pass0 (pa_cons (pv 0) pa_nil)) (pe_one (pe_cmpR op_ge (pe_ix ix_seq (pv 0) pe_int (fun _ _ => rfl)) pe_int (nomark _)))))), pure_is_fraction_from_nought K vs H Q E h⟩
/-! ### is_row_of_fractions -/

def pre_is_row_of_fractions : List PyData → Prop := fun ds => ∃ v, ∃ n : Int, ds = [v, .int n] ∧ 0 ≤ n ∧ n ≤ 1000
def post_is_row_of_fractions : List PyData → PyData → Prop := fun ds d => ∃ v, ∃ n : Int, ds = [v, .int n] ∧ d = .bool (isRowD v n)
abbrev sp_is_row_of_fractions (K : PySem.W.Frag) : Sp := SpP K pre_is_row_of_fractions post_is_row_of_fractions
theorem len_is_row_of_fractions (K : PySem.W.Frag) (vs : List V) (H : Hp) (Q : VK) (E : XK) (h : sp_is_row_of_fractions K vs H Q E) : vs.length = p_is_row_of_fractions.length := len_P (n := 2) h fun ds hp => by
  obtain ⟨v, n, e, hn0, hn1⟩ := hp
  rw [e]; rfl
def t_is_row_of_fractions (K : PySem.W.Frag) : TS :=
  (tSeq (tIfS (tOr (tNot (tB (tCB (rIsi K) (tCons (tVar 0) (tCons (tC (.ty "tuple")) tNil))))) (tTest (tOp rNe (tCB (rLenQ K) (tCons (tVar 0) tNil)) (tVar 1)))) (tRet (tC (.bl false))) tNext)
  (tRet (tCB (rAll K) (tCons (tLc (iTup K (tVar 0)) (gName 2) tYes (tCall (sp_is_fraction_from_nought K) [] E0 (tCons (tVar 2) tNil)) [2]) tNil))))
theorem pure_is_row_of_fractions (K : PySem.W.Frag) (vs : List V) (H : Hp) (Q : VK) (E : XK) (h : sp_is_row_of_fractions K vs H Q E) : t_is_row_of_fractions K { nx := fun _ H' => Q .non H', rt := Q } (L2.start N_is_row_of_fractions vs) H := body_P h fun B ds hW hp => by
  obtain ⟨v, n, e, hn0, hn1⟩ := hp
  subst e
  unfold t_is_row_of_fractions
  refine st_seq (st_if (et_or (et_not (et_B (ev_isiTup (ev_var rfl ⟨_, rfl, fun hb => ?_, fun hb => ⟨fun _ => ?_, fun z => nomatch z⟩⟩))))))
  · obtain ⟨xs, rfl⟩ := isTupT_true (d := v) (by simpa using hb)
    refine et_test (ev_op (ev_cb (ea_cons (ev_var rfl (ea_nil (co_lenT (ev_var rfl (rok_neI ⟨_, rfl, fun hb => ?_, fun hb => ?_⟩))))))))
    · refine st_ret (ev_bl ⟨_, _, rfl, ?_⟩)
      have h2 : ¬ (xs.length : Int) = n := by
        simp at hb
        exact hb
      show _ = PyData.bool (decide ((xs.length : Int) = n) && xs.all isRowItem)
      rw [decide_eq_false h2]
      rfl
    · have hl : (xs.length : Int) = n := by
        simp at hb
        exact hb
      refine st_next (st_ret (ev_cb (ea_cons (ev_new (en_lcT (wipe1 2) (ev_var rfl ⟨xs, rfl, by omega, fun i acc => acc = ((xs.take i).map fun d => PyData.bool (isRowItem d)), ⟨rfl, fun i D d' acc hi hJ hin => ?_⟩, fun acc hJ => ?_⟩))) )))
      · refine et_yes ⟨fun _ => ?_, fun z => nomatch z⟩
        subst hJ
        refine ev_callP (ea_cons (ev_var rfl (ea_nil ⟨⟨_, rfl⟩, fun d ⟨v, ev, ed⟩ => ?_⟩)))
        cases ev
        subst ed
        show ((xs.take i).map fun d => PyData.bool (isRowItem d)) ++ [PyData.bool (isRowItem d')] = (xs.take (i + 1)).map fun d => PyData.bool (isRowItem d)
        rw [List.take_add_one, hi, List.map_append]
        rfl
      · refine ea_nil ?_
        subst hJ
        rw [List.take_length, show (xs.map fun d => PyData.bool (isRowItem d)) = (xs.map isRowItem).map PyData.bool by rw [List.map_map]; rfl]
        refine cok_all ⟨_, _, rfl, ?_⟩
        show _ = PyData.bool (decide ((xs.length : Int) = n) && xs.all isRowItem)
        rw [decide_eq_true hl, Bool.true_and, List.all_map]
        rfl
  · refine st_ret (ev_bl ⟨_, _, rfl, ?_⟩)
    cases v <;> first | rfl | cases hb
theorem ok_is_row_of_fractions (T : Tx K mg) : FnOk P w K mg base CX0 4 T.a_is_row_of_fractions T.d_is_row_of_fractions p_is_row_of_fractions (sp_is_row_of_fractions K) := by
  refine T.F_is_row_of_fractions.ok sc_is_row_of_fractions (fun vs H Q E h => len_is_row_of_fractions K vs H Q E h) (fun cdv A outer s H vs Q E hr h => ?_)
  exact ⟨t_is_row_of_fractions K, (pss_cons (ps_if (PW.pt (pw_or (pt_not (pt_val (pe_callB call_isi (by rfl) T.n_isinstance (by decide +kernel) (pa_cons (pv 0) (pa_cons (pe_bltn (v := .ty "tuple") (by rfl) T.n_tuple (by decide +kernel) rfl) pa_nil))))) (pw_or1 (pt_cmpR op_ne (pe_callB call_len_seq (by rfl) T.n_len (by decide +kernel) (pa_cons (pv 0) pa_nil)) (pv 1) (nomark _))))) (pss_one (ps_ret pe_bl)) pss_nil)
  (pss_one (ps_ret (pe_callB (cr_all rfl) (by rfl) T.n_all (by decide +kernel) (pa_cons (pe_lc (own := [("number", 2)]) (by rfl) sc_is_row_of_fractions.nd (pi_tup (pv 0)) (blkOk_by (own := [("number", 2)]) (N := N_is_row_of_fractions) (sc := defScope s_is_row_of_fractions) (by decide +kernel)) (fun _ _ _ _ _ => pg_name (i := 2) sc_is_row_of_fractions.nd rfl (Or.inl rfl)) (fun _ _ _ _ _ => pts_nil) (fun _ _ _ _ _ => (pe_call (ok_is_fraction_from_nought T) (hr.mono (by decide)) rfl T.g_is_fraction_from_nought T.F_is_fraction_from_nought.kp (b_is_fraction_from_nought T) .nil pass0 (pa_cons (pv 2) pa_nil)))) pa_nil))))), pure_is_row_of_fractions K vs H Q E h⟩
/-! ### is_line -/
def isLine2 : PyData → PyData → Bool
  | .tuple ds, s => decide (1 ≤ ds.length ∧ ds.length ≤ 8) && (isRowD (.tuple ds) ds.length && (isRowD s ((ds.length : Int) + 1) && (match s with
    | .tuple ss => (ds ++ DL.cutD ss (some 1) (some (-1))).all fun d => decide (0 < numD d)
    | _ => false)))
  | _, _ => false
def isLineL : List PyData → Bool
  | [d, s] => isLine2 d s
  | _ => false
def isLineD : PyData → Bool
  | .tuple xs => isLineL xs
  | _ => false
theorem isLine_len {xs : List PyData} (h : xs.length ≠ 2) : isLineD (.tuple xs) = false := by
  match xs with
  | [] => rfl
  | [a] => rfl
  | [a, b] => exact absurd rfl h
  | a :: b :: c :: r => rfl
theorem isLine_disc {ds : List PyData} {b : PyData} (h : ¬ (1 ≤ ds.length ∧ ds.length ≤ 8)) : isLineD (.tuple [.tuple ds, b]) = false := by
  show (decide (1 ≤ ds.length ∧ ds.length ≤ 8) && _) = false
  rw [decide_eq_false h, Bool.false_and]
theorem isLine_row1 {ds : List PyData} {b : PyData} (h : isRowD (.tuple ds) ds.length = false) : isLineD (.tuple [.tuple ds, b]) = false := by
  show (_ && (isRowD (.tuple ds) ds.length && _)) = false
  rw [h, Bool.false_and, Bool.and_false]
theorem isLine_row2 {ds : List PyData} {b : PyData} (h : isRowD b ((ds.length : Int) + 1) = false) : isLineD (.tuple [.tuple ds, b]) = false := by
  show (_ && (_ && (isRowD b ((ds.length : Int) + 1) && _))) = false
  rw [h, Bool.false_and, Bool.and_false, Bool.and_false]
theorem isLine_in {ds ss : List PyData} (h1 : 1 ≤ ds.length) (h8 : ds.length ≤ 8) (r1 : isRowD (.tuple ds) ds.length = true) (r2 : isRowD (.tuple ss) ((ds.length : Int) + 1) = true) :
    isLineD (.tuple [.tuple ds, .tuple ss]) = (ds ++ DL.cutD ss (some 1) (some (-1))).all fun d => decide (0 < numD d) := by
  show (decide (1 ≤ ds.length ∧ ds.length ≤ 8) && (isRowD (.tuple ds) ds.length && (isRowD (.tuple ss) ((ds.length : Int) + 1) && _))) = _
  rw [decide_eq_true ⟨h1, h8⟩, r1, r2, Bool.true_and, Bool.true_and, Bool.true_and]
theorem isRowD_tup {v : PyData} {n : Int} (h : isRowD v n = true) : ∃ xs, v = .tuple xs ∧ (xs.length : Int) = n := by
  cases v with
  | tuple xs => exact ⟨xs, rfl, of_decide_eq_true (Bool.and_eq_true_iff.mp (show (decide ((xs.length : Int) = n) && xs.all isRowItem) = true from h)).1⟩
  | _ => cases h
theorem isRowD_mem {xs : List PyData} {n : Int} (h : isRowD (.tuple xs) n = true) {d : PyData} (hd : d ∈ xs) : isRowItem d = true :=
  List.all_eq_true.mp (Bool.and_eq_true_iff.mp (show (decide ((xs.length : Int) = n) && xs.all isRowItem) = true from h)).2 d hd
theorem cutD_le (ds : List PyData) (lo hi : Option Int) : (DL.cutD ds lo hi).length ≤ ds.length := by
  unfold DL.cutD
  rw [List.length_take, List.length_drop]
  omega
theorem cutD_mem {ds : List PyData} {lo hi : Option Int} {d : PyData} (h : d ∈ DL.cutD ds lo hi) : d ∈ ds := List.mem_of_mem_drop (List.mem_of_mem_take h)
def pre_is_line : List PyData → Prop := fun ds => ∃ v, ds = [v]
def post_is_line : List PyData → PyData → Prop := fun ds d => ∃ v, ds = [v] ∧ d = .bool (isLineD v)
abbrev sp_is_line (K : PySem.W.Frag) : Sp := SpP K pre_is_line post_is_line
theorem len_is_line (K : PySem.W.Frag) (vs : List V) (H : Hp) (Q : VK) (E : XK) (h : sp_is_line K vs H Q E) : vs.length = p_is_line.length := len_P (n := 1) h fun ds hp => by
  obtain ⟨v, e⟩ := hp
  rw [e]; rfl
def t_is_line (K : PySem.W.Frag) : TS :=
  (tSeq (tIfS (tOr (tNot (tB (tCB (rIsi K) (tCons (tVar 0) (tCons (tC (.ty "tuple")) tNil))))) (tTest (tOp rNe (tCB (rLenQ K) (tCons (tVar 0) tNil)) (tC (.int 2))))) (tRet (tC (.bl false))) tNext)
  (tSeq (tAsg (tVar 0) (gTup K 2 (gCons (gName 1) (gCons (gName 2) gNil))))
  (tSeq (tIfS (tOr (tNot (tB (tCB (rIsi K) (tCons (tVar 1) (tCons (tC (.ty "tuple")) tNil))))) (tNot (tTest (tChain (rI0 fun i j => .bl (decide (i ≤ j))) (rI0 fun i j => .bl (decide (i ≤ j))) (tC (.int 1)) (tCB (rLenQ K) (tCons (tVar 1) tNil)) (tC (.int 8)))))) (tRet (tC (.bl false))) tNext)
  (tSeq (tIfS (tOr (tNot (tB (tCall (sp_is_row_of_fractions K) [] E0 (tCons (tVar 1) (tCons (tCB (rLenQ K) (tCons (tVar 1) tNil)) tNil))))) (tNot (tB (tCall (sp_is_row_of_fractions K) [] E0 (tCons (tVar 2) (tCons (tOp (rAddA K) (tCB (rLenQ K) (tCons (tVar 1) tNil)) (tC (.int 1))) tNil)))))) (tRet (tC (.bl false))) tNext)
  (tRet (tCB (rAll K) (tCons (tLc (iTup K (tOp (rAddA K) (tVar 1) (tSl (rSlX2 K) (tVar 2) (tPart (tC (.int 1))) (tPart (tUn (rU fun i => .int (-i)) (tC (.int 1))))))) (gName 3) tYes (tOp (rI0 fun i j => .bl (decide (j < i))) (tOp (rIx K) (tVar 3) (tC (.int 0))) (tC (.int 0))) [3]) tNil)))))))
theorem pure_is_line (K : PySem.W.Frag) (vs : List V) (H : Hp) (Q : VK) (E : XK) (h : sp_is_line K vs H Q E) : t_is_line K { nx := fun _ H' => Q .non H', rt := Q } (L2.start N_is_line vs) H := body_P h fun B ds hW hp => by
  obtain ⟨v, e⟩ := hp
  subst e
  unfold t_is_line
  walk_at "dd"
  refine ⟨fun hb => ?_, fun hb => ⟨fun _ => ?_, fun z => nomatch z⟩⟩
  · obtain ⟨xs, rfl⟩ := isTupT_true (d := v) (by simpa using hb)
    walk_at "dd"
    refine ⟨fun hb => ?_, fun hb => ?_⟩
    · refine st_ret (ev_bl ⟨_, rfl, ?_⟩)
      have hl : xs.length ≠ 2 := by
        simp at hb
        omega
      rw [isLine_len hl]
    · have hl : xs.length = 2 := by
        simp at hb
        omega
      obtain ⟨a, b, rfl⟩ : ∃ a b, xs = [a, b] := by
        match xs, hl with
        | [a, b], _ => exact ⟨a, b, rfl⟩
      refine st_next (st_seq (st_unpack (ev_var rfl ⟨_, rfl, rfl, tg_cons (tg_cons (tg_nil ?_))⟩)))
      walk_at "dd"
      refine ⟨fun hb => ?_, fun hb => ⟨fun _ => ?_, fun z => nomatch z⟩⟩
      · obtain ⟨ds, rfl⟩ := isTupT_true (d := a) (by simpa using hb)
        walk_at "dd"
        refine ⟨fun hb => ?_, fun hb => ?_⟩
        · walk_at "dd"
          refine ⟨fun hb2 => ?_, fun hb2 => ?_⟩
          · refine st_ret (ev_bl ⟨_, rfl, ?_⟩)
            have h8 : ¬ ds.length ≤ 8 := by
              simp at hb2
              omega
            rw [isLine_disc (fun z => h8 z.2)]
          · have h1 : 1 ≤ ds.length := by
              have := of_decide_eq_true hb
              omega
            have h8 : ds.length ≤ 8 := by
              simp at hb2
              omega
            walk_at "dd"
            refine ev_callP ?_
            walk_at "dd"
            refine ⟨⟨_, _, rfl, by omega, by omega⟩, fun d ⟨v, n, ev, ed⟩ => ?_⟩
            cases ev
            refine ⟨_, ed, fun hb3 => ?_, fun hb3 => ⟨fun _ => ?_, fun z => nomatch z⟩⟩
            · have r1 : isRowD (.tuple ds) ds.length = true := by simpa using hb3
              refine et_not (et_B (ev_callP ?_))
              walk_at "dd"
              refine ⟨⟨_, _, rfl, by omega, by omega⟩, fun d ⟨v, n, ev, ed⟩ => ?_⟩
              cases ev
              refine ⟨_, ed, fun hb4 => ?_, fun hb4 => ?_⟩
              · refine st_ret (ev_bl ⟨_, rfl, ?_⟩)
                rw [isLine_row2 (by simpa using hb4)]
              · have r2 : isRowD b ((ds.length : Int) + 1) = true := by simpa using hb4
                obtain ⟨ss, rfl, hs⟩ := isRowD_tup r2
                refine st_next (st_ret (ev_cb (ea_cons (ev_new (en_lcT (wipe1 3) ?_)))))
                have hcl := cutD_le ss (some 1) (some (-1))
                have hz : (ds ++ DL.cutD ss (some 1) (some (-1))).length ≤ 100000 := by
                  rw [List.length_append]
                  omega
                have hit : ∀ d' ∈ ds ++ DL.cutD ss (some 1) (some (-1)), isRowItem d' = true := fun d' hd => by
                  rcases List.mem_append.mp hd with hd | hd
                  · exact isRowD_mem r1 hd
                  · exact isRowD_mem r2 (cutD_mem hd)
                walk_at "dd"
                refine ro_catT (by omega) ?_
                have hfin := isLine_in h1 h8 r1 r2
                revert hfin hz hit
                generalize ds ++ DL.cutD ss (some 1) (some (-1)) = xs
                intro hz hit hfin
                refine ⟨xs, rfl, hz, fun i acc => acc = ((xs.take i).map fun d => PyData.bool (decide (0 < numD d))), ⟨rfl, fun i D d' acc hi hJ hin => ?_⟩, fun acc hJ => ?_⟩
                · refine et_yes ⟨fun _ => ?_, fun z => nomatch z⟩
                  subst hJ
                  have hd' := hit d' (List.mem_of_getElem? hi)
                  have hf : isFracD d' = true := (Bool.and_eq_true_iff.mp hd').1
                  obtain ⟨p, q, rfl, hq, hg⟩ := isFracD_true hf
                  refine ev_op (ev_op (ev_var rfl (ev_int (rok_ixsT (d := .int p) rfl (ev_int (rok_b0 ?_))))))
                  show _ = List.map (fun d => PyData.bool (decide (0 < numD d))) (List.take (i + 1) xs)
                  rw [List.take_add_one, hi, List.map_append]
                  rfl
                · refine ea_nil ?_
                  subst hJ
                  rw [List.take_length, show (xs.map fun d => PyData.bool (decide (0 < numD d))) = (xs.map fun d => decide (0 < numD d)).map PyData.bool by rw [List.map_map]; rfl]
                  refine cok_all ⟨_, rfl, ?_⟩
                  rw [hfin, List.all_map]
                  rfl
            · refine st_ret (ev_bl ⟨_, rfl, ?_⟩)
              rw [isLine_row1 (by simpa using hb3)]
        · walk_at "dd"
          refine ⟨fun _ => ?_, fun z => nomatch z⟩
          refine st_ret (ev_bl ⟨_, rfl, ?_⟩)
          have h8 : ¬ 1 ≤ ds.length := by
            have := of_decide_eq_false hb
            omega
          rw [isLine_disc (fun z => h8 z.1)]
      · refine st_ret (ev_bl ⟨_, rfl, ?_⟩)
        cases a <;> first | rfl | cases hb
  · refine st_ret (ev_bl ⟨_, rfl, ?_⟩)
    cases v <;> first | rfl | cases hb
theorem ok_is_line (T : Tx K mg) : FnOk P w K mg base CX0 5 T.a_is_line T.d_is_line p_is_line (sp_is_line K) := by
  refine T.F_is_line.ok sc_is_line (fun vs H Q E h => len_is_line K vs H Q E h) (fun cdv A outer s H vs Q E hr h => ?_)
  exact ⟨t_is_line K, (pss_cons (ps_if (PW.pt (pw_or (pt_not (pt_val (pe_callB call_isi (by rfl) T.n_isinstance (by decide +kernel) (pa_cons (pv 0) (pa_cons (pe_bltn (v := .ty "tuple") (by rfl) T.n_tuple (by decide +kernel) rfl) pa_nil))))) (pw_or1 (pt_cmpR op_ne (pe_callB call_len_seq (by rfl) T.n_len (by decide +kernel) (pa_cons (pv 0) pa_nil)) pe_int (nomark _))))) (pss_one (ps_ret pe_bl)) pss_nil)
  (pss_cons (ps_asg (pv 0) (pg_tup (by rfl) (pgs_cons (pg_name (i := 1) sc_is_line.nd rfl (Or.inl rfl)) (pgs_cons (pg_name (i := 2) sc_is_line.nd rfl (Or.inl rfl)) pgs_nil))))
  (pss_cons (ps_if (PW.pt (pw_or (pt_not (pt_val (pe_callB call_isi (by rfl) T.n_isinstance (by decide +kernel) (pa_cons (pv 1) (pa_cons (pe_bltn (v := .ty "tuple") (by rfl) T.n_tuple (by decide +kernel) rfl) pa_nil))))) (pw_or1 (pt_not (pt_chain op_le op_le pe_int (pe_callB call_len_seq (by rfl) T.n_len (by decide +kernel) (pa_cons (pv 1) pa_nil)) (pe_glob rfl T.c_MOST_DISCS ⟨_, rfl⟩)))))) (pss_one (ps_ret pe_bl)) pss_nil)
  (pss_cons (ps_if (PW.pt (pw_or (pt_not (pt_val (pe_call (ok_is_row_of_fractions T) (hr.mono (by decide)) rfl T.g_is_row_of_fractions T.F_is_row_of_fractions.kp (b_is_row_of_fractions T) .nil pass0 (pa_cons (pv 1) (pa_cons (pe_callB call_len_seq (by rfl) T.n_len (by decide +kernel) (pa_cons (pv 1) pa_nil)) pa_nil))))) (pw_or1 (pt_not (pt_val (pe_call (ok_is_row_of_fractions T) (hr.mono (by decide)) rfl T.g_is_row_of_fractions T.F_is_row_of_fractions.kp (b_is_row_of_fractions T) .nil pass0 (pa_cons (pv 2) (pa_cons (pe_op op_addA (pe_callB call_len_seq (by rfl) T.n_len (by decide +kernel) (pa_cons (pv 1) pa_nil)) pe_int) pa_nil)))))))) (pss_one (ps_ret pe_bl)) pss_nil)
  (pss_one (ps_ret (pe_callB (cr_all rfl) (by rfl) T.n_all (by decide +kernel) (pa_cons (pe_lc (own := [("number", 3)]) (by rfl) sc_is_line.nd (pi_tup (pe_op op_addA (pv 1) (pe_slice sl_any (pv 2) (po_some pe_int) (po_some (pe_un un_neg pe_int))))) (blkOk_by (own := [("number", 3)]) (N := N_is_line) (sc := defScope s_is_line) (by decide +kernel)) (fun _ _ _ _ _ => pg_name (i := 3) sc_is_line.nd rfl (Or.inl rfl)) (fun _ _ _ _ _ => pts_nil) (fun _ _ _ _ _ => (pe_cmpR op_gt (pe_ix ix_seq (pv 3) pe_int (fun _ _ => rfl)) pe_int (nomark _)))) pa_nil)))))))), pure_is_line K vs H Q E h⟩
/-! ### check_line -/
theorem frD_item {x : Fr} (h : FOk x) (h0 : 0 ≤ x.1) : isRowItem (frD x) = true := by
  show (decide (0 < x.2) && decide (((Nat.gcd x.1.natAbs x.2.natAbs : Nat) : Int) = 1) && decide (0 ≤ x.1)) = true
  rw [decide_eq_true h.1, decide_eq_true h0, decide_eq_true (by rw [h.2]; rfl)]
  rfl
theorem lineD_ll {dd ss : List Fr} (h : LL dd ss) : isLineD (lineD dd ss) = true := by
  have n1 := h.c1
  have n8 := h.c8
  show (decide (1 ≤ (dd.map frD).length ∧ (dd.map frD).length ≤ 8) && (isRowD (.tuple (dd.map frD)) (dd.map frD).length && (isRowD (.tuple (ss.map frD)) (((dd.map frD).length : Int) + 1) && ((dd.map frD ++ DL.cutD (ss.map frD) (some 1) (some (-1))).all fun d => decide (0 < numD d))))) = true
  have hr1 : isRowD (.tuple (dd.map frD)) (dd.map frD).length = true := by
    show (decide (((dd.map frD).length : Int) = ((dd.map frD).length : Int)) && (dd.map frD).all isRowItem) = true
    rw [decide_eq_true rfl, Bool.true_and, List.all_eq_true]
    intro d hd
    obtain ⟨x, hx, rfl⟩ := List.mem_map.mp hd
    obtain ⟨a, b⟩ := h.dok x hx
    exact frD_item a (by omega)
  have hr2 : isRowD (.tuple (ss.map frD)) (((dd.map frD).length : Int) + 1) = true := by
    show (decide (((ss.map frD).length : Int) = ((dd.map frD).length : Int) + 1) && (ss.map frD).all isRowItem) = true
    rw [decide_eq_true (by rw [List.length_map, List.length_map, h.len]; omega), Bool.true_and, List.all_eq_true]
    intro d hd
    obtain ⟨x, hx, rfl⟩ := List.mem_map.mp hd
    obtain ⟨a, b⟩ := h.sok x hx
    exact frD_item a b
  have hc : decide (1 ≤ (dd.map frD).length ∧ (dd.map frD).length ≤ 8) = true := decide_eq_true (by rw [List.length_map]; omega)
  rw [hr1, hr2, hc, Bool.true_and, Bool.true_and, Bool.true_and, List.all_eq_true]
  intro d hd
  apply decide_eq_true
  rcases List.mem_append.mp hd with hd | hd
  · obtain ⟨x, hx, rfl⟩ := List.mem_map.mp hd
    exact (h.dok x hx).2
  · obtain ⟨i, hi, e⟩ := List.getElem_of_mem hd
    have e2 : (DL.cutD (ss.map frD) (some 1) (some (-1)))[i]? = some d := by rw [List.getElem?_eq_getElem hi, e]
    unfold DL.cutD at e2
    rw [List.getElem?_take] at e2
    have s1 : HT.sIx (ss.map frD).length 0 (some 1) = 1 := by
      rw [show (1 : Int) = ((1 : Nat) : Int) by rfl, HT.sIx_nat, List.length_map, h.len]
      omega
    have s2 : HT.sIx (ss.map frD).length (ss.map frD).length (some (-1)) = dd.length := by
      show (if (-1 : Int) < 0 then (-1 + ((ss.map frD).length : Int)).toNat else min (-1 : Int).toNat (ss.map frD).length) = dd.length
      rw [if_pos (by decide), List.length_map, h.len]
      omega
    rw [s1, s2] at e2
    by_cases q : i < dd.length - 1
    · rw [if_pos q, List.getElem?_drop, List.getElem?_map] at e2
      cases e3 : ss[1 + i]? with
      | none => rw [e3] at e2; cases e2
      | some x =>
        rw [e3] at e2
        cases e2
        exact h.inn (1 + i) x (by omega) (by omega) e3
    · rw [if_neg q] at e2
      cases e2
theorem rows_frs : ∀ {xs : List PyData}, (∀ d ∈ xs, isRowItem d = true) → ∃ r : List Fr, xs = r.map frD ∧ ∀ x ∈ r, FOk x ∧ 0 ≤ x.1
  | [], _ => ⟨[], rfl, fun x hx => by cases hx⟩
  | d :: xs, h => by
    obtain ⟨r, rfl, hr⟩ := rows_frs (xs := xs) fun y hy => h y (List.mem_cons_of_mem _ hy)
    have h1 : (isFracD d && decide (0 ≤ numD d)) = true := h d (List.mem_cons_self ..)
    rw [Bool.and_eq_true] at h1
    obtain ⟨n, m, rfl, m0, g⟩ := isFracD_true h1.1
    have n0 : 0 ≤ n := of_decide_eq_true h1.2
    refine ⟨(n, m) :: r, rfl, fun x hx => ?_⟩
    rcases List.mem_cons.mp hx with rfl | hx
    · exact ⟨⟨m0, g⟩, n0⟩
    · exact hr x hx
theorem line_ll {v : PyData} (h : isLineD v = true) : ∃ dd ss : List Fr, v = lineD dd ss ∧ LL dd ss := by
  cases v with
  | tuple xs =>
    match xs with
    | [] => cases h
    | [a] => cases h
    | a :: b :: c :: r => cases h
    | [a, b] =>
      cases a with
      | tuple ds =>
        by_cases hc : 1 ≤ ds.length ∧ ds.length ≤ 8
        · by_cases r1 : isRowD (.tuple ds) ds.length = true
          · by_cases r2 : isRowD b ((ds.length : Int) + 1) = true
            · obtain ⟨ss, rfl, sl⟩ := isRowD_tup r2
              have hin := isLine_in hc.1 hc.2 r1 r2
              rw [h] at hin
              have hin := hin.symm
              obtain ⟨dd, rfl, hd⟩ := rows_frs fun d hd => isRowD_mem r1 hd
              obtain ⟨tt, rfl, ht⟩ := rows_frs fun d hd => isRowD_mem r2 hd
              rw [List.length_map] at hc sl
              rw [List.length_map] at sl
              rw [List.all_eq_true] at hin
              refine ⟨dd, tt, rfl, hc.1, hc.2, by omega, fun x hx => ⟨(hd x hx).1, ?_⟩, ht, fun i x i0 il hx => ?_⟩
              · exact of_decide_eq_true (hin (frD x) (List.mem_append_left _ (List.mem_map.mpr ⟨x, hx, rfl⟩)))
              · have hm : frD x ∈ DL.cutD (tt.map frD) (some 1) (some (-1)) := by
                  refine List.mem_of_getElem? (i := i - 1) ?_
                  unfold DL.cutD
                  have s1 : HT.sIx (tt.map frD).length 0 (some 1) = 1 := by
                    rw [show (1 : Int) = ((1 : Nat) : Int) by rfl, HT.sIx_nat, List.length_map]
                    omega
                  have s2 : HT.sIx (tt.map frD).length (tt.map frD).length (some (-1)) = dd.length := by
                    show (if (-1 : Int) < 0 then (-1 + ((tt.map frD).length : Int)).toNat else min (-1 : Int).toNat (tt.map frD).length) = dd.length
                    rw [if_pos (by decide), List.length_map]
                    omega
                  rw [s1, s2, List.getElem?_take, if_pos (by omega), List.getElem?_drop, show 1 + (i - 1) = i by omega, List.getElem?_map, hx]
                  rfl
                exact of_decide_eq_true (hin (frD x) (List.mem_append_right _ hm))
            · rw [isLine_row2 (by simpa using r2)] at h
              cases h
          · rw [isLine_row1 (by simpa using r1)] at h
            cases h
        · rw [isLine_disc hc] at h
          cases h
      | _ => cases h
  | _ => cases h

def pre_check_line : List PyData → Prop := fun ds => ∃ v, ds = [v] ∧ isLineD v = true
def post_check_line : List PyData → PyData → Prop := fun ds d => d = .none
abbrev sp_check_line (K : PySem.W.Frag) : Sp := SpP K pre_check_line post_check_line
theorem len_check_line (K : PySem.W.Frag) (vs : List V) (H : Hp) (Q : VK) (E : XK) (h : sp_check_line K vs H Q E) : vs.length = p_check_line.length := len_P (n := 1) h fun ds hp => by
  obtain ⟨v, e, h⟩ := hp
  rw [e]; rfl
def t_check_line (K : PySem.W.Frag) : TS :=
  (tIfS (tNot (tB (tCall (sp_is_line K) [] E0 (tCons (tVar 0) tNil)))) tNever tNext)
theorem pure_check_line (K : PySem.W.Frag) (vs : List V) (H : Hp) (Q : VK) (E : XK) (h : sp_check_line K vs H Q E) : t_check_line K { nx := fun _ H' => Q .non H', rt := Q } (L2.start N_check_line vs) H := body_P h fun B ds hW hp => by
  obtain ⟨v, e, h⟩ := hp
  subst e
  unfold t_check_line

  refine st_if (et_not (et_B (ev_callP (ea_cons (ev_var rfl (ea_nil ⟨⟨_, rfl⟩, fun d ⟨v', ev, ed⟩ => ?_⟩))))))
  cases ev
  rw [h] at ed
  exact ⟨_, ed, (fun z => nomatch z), fun _ => st_next rfl⟩
theorem ok_check_line (T : Tx K mg) : FnOk P w K mg base CX0 6 T.a_check_line T.d_check_line p_check_line (sp_check_line K) := by
  refine T.F_check_line.ok sc_check_line (fun vs H Q E h => len_check_line K vs H Q E h) (fun cdv A outer s H vs Q E hr h => ?_)
  exact ⟨t_check_line K, (pss_one (ps_if (pt_not (pt_val (pe_call (ok_is_line T) (hr.mono (by decide)) rfl T.g_is_line T.F_is_line.kp (b_is_line T) .nil pass0 (pa_cons (pv 0) pa_nil)))) (pss_one ps_never) pss_nil)), pure_check_line K vs H Q E h⟩
/-! ### is_not_above -/

def pre_is_not_above : List PyData → Prop := fun ds => ∃ r s : List Fr, ds = [.tuple (r.map frD), .tuple (s.map frD)] ∧ r.length = s.length ∧ r.length ≤ 9 ∧ (∀ x ∈ r, Sm x) ∧ ∀ x ∈ s, Sm x
def post_is_not_above : List PyData → PyData → Prop := fun ds d => ∃ (r s : List Fr) (b : Bool), ds = [.tuple (r.map frD), .tuple (s.map frD)] ∧ d = .bool b ∧ (b = true ↔ ∀ i, i < r.length → jv r i ≤ jv s i)
abbrev sp_is_not_above (K : PySem.W.Frag) : Sp := SpP K pre_is_not_above post_is_not_above
theorem len_is_not_above (K : PySem.W.Frag) (vs : List V) (H : Hp) (Q : VK) (E : XK) (h : sp_is_not_above K vs H Q E) : vs.length = p_is_not_above.length := len_P (n := 2) h fun ds hp => by
  obtain ⟨r, s, e, hl, h9, hr, hs⟩ := hp
  rw [e]; rfl
def t_is_not_above (K : PySem.W.Frag) : TS :=
  (tRet (tCB (rAll K) (tCons (tLc (iZip2 K (tCons (tVar 0) (tCons (tVar 1) tNil))) (gTwo K 2 3) tYes (tOp (rI0 fun i j => .bl (decide (i ≤ j))) (tCall (sp_compare_fractions K) [] E0 (tCons (tVar 2) (tCons (tVar 3) tNil))) (tC (.int 0))) [2, 3]) tNil)))
theorem pure_is_not_above (K : PySem.W.Frag) (vs : List V) (H : Hp) (Q : VK) (E : XK) (h : sp_is_not_above K vs H Q E) : t_is_not_above K { nx := fun _ H' => Q .non H', rt := Q } (L2.start N_is_not_above vs) H := body_P h fun B ds hW hp => by
  obtain ⟨r, s, e, hl, h9, hr, hs⟩ := hp
  subst e
  unfold t_is_not_above

  refine st_ret (ev_cb (ea_cons (ev_new (en_lcZ2 (wipe2 2 3) (ea_cons (ev_var rfl (ea_cons (ev_var rfl (ea_nil ⟨true, true, r.map frD, s.map frD, rfl, by rw [List.length_map, List.length_map]; exact hl, by rw [List.length_map]; omega, fun i acc => acc = ((List.range i).map fun j => decide (jv r j ≤ jv s j)).map PyData.bool, ⟨rfl, fun i D x y acc hi hJ hin => ?_⟩, fun acc hJ => ?_⟩)))))))))
  · obtain ⟨h1, h2⟩ := hi
    obtain ⟨x, hx, rfl⟩ : ∃ x', r[i]? = some x' ∧ x = frD x' := map_getG h1
    obtain ⟨y, hy, rfl⟩ : ∃ y', s[i]? = some y' ∧ y = frD y' := map_getG h2
    refine et_yes ⟨fun _ => ?_, fun z => nomatch z⟩
    refine ev_op (ev_callP (ea_cons (ev_var rfl (ea_cons (ev_var rfl (ea_nil ⟨⟨x, y, rfl, hr x (List.mem_of_getElem? hx), hs y (List.mem_of_getElem? hy)⟩, fun d ⟨x', y', e, ed⟩ => ?_⟩))))))
    obtain ⟨rfl, rfl⟩ := frD2_inj e
    subst ed
    refine ev_int (rok_b0 ?_)
    show acc ++ [_] = ((List.range (i + 1)).map fun j => decide (jv r j ≤ jv s j)).map PyData.bool
    rw [rsgn_le, ← jv_el hx, ← jv_el hy, show acc = _ from hJ, List.range_succ, List.map_append, List.map_append]
    rfl
  · refine ea_nil ?_
    rw [hJ]
    refine cok_all ⟨r, s, _, rfl, rfl, ?_⟩
    rw [List.all_map, List.all_eq_true, List.length_map]
    constructor
    · exact fun q i hi => of_decide_eq_true (q i (List.mem_range.mpr hi))
    · exact fun q i hi => decide_eq_true (q i (List.mem_range.mp hi))
theorem ok_is_not_above (T : Tx K mg) : FnOk P w K mg base CX0 3 T.a_is_not_above T.d_is_not_above p_is_not_above (sp_is_not_above K) := by
  refine T.F_is_not_above.ok sc_is_not_above (fun vs H Q E h => len_is_not_above K vs H Q E h) (fun cdv A outer s H vs Q E hr h => ?_)
  exact ⟨t_is_not_above K, (pss_one (ps_ret (pe_callB (cr_all rfl) (by rfl) T.n_all (by decide +kernel) (pa_cons (pe_lc (own := [("first", 2), ("second", 3)]) (by rfl) sc_is_not_above.nd (pi_zip2 (by rfl) T.n_zip (pa_cons (pv 0) (pa_cons (pv 1) pa_nil))) (blkOk_by (own := [("first", 2), ("second", 3)]) (N := N_is_not_above) (sc := defScope s_is_not_above) (by decide +kernel)) (fun _ _ _ _ _ => pg_tup (by rfl) (pgs_cons (pg_name (i := 2) sc_is_not_above.nd rfl (Or.inl rfl)) (pgs_cons (pg_name (i := 3) sc_is_not_above.nd rfl (Or.inl rfl)) pgs_nil))) (fun _ _ _ _ _ => pts_nil) (fun _ _ _ _ _ => (pe_cmpR op_le (pe_call (ok_compare_fractions T) (hr.mono (by decide)) rfl T.g_compare_fractions T.F_compare_fractions.kp (b_compare_fractions T) .nil pass0 (pa_cons (pv 2) (pa_cons (pv 3) pa_nil))) pe_int (nomark _)))) pa_nil)))), pure_is_not_above K vs H Q E h⟩
/-! ### is_not_faster -/
theorem rr_inj {a b c d : List Fr} (h : [PyData.tuple (a.map frD), .tuple (b.map frD)] = [.tuple (c.map frD), .tuple (d.map frD)]) : a = c ∧ b = d := by
  have h2 : [lineD a b] = [lineD c d] := by
    simp only [List.cons.injEq, and_true] at h
    unfold lineD
    rw [h.1, h.2]
  exact lineD_inj h2
theorem ll_inj {a b c d e f g i : List Fr} (h : [lineD a b, lineD c d] = [lineD e f, lineD g i]) : a = e ∧ b = f ∧ c = g ∧ d = i := by
  simp only [List.cons.injEq, and_true] at h
  obtain ⟨h1, h2⟩ := h
  obtain ⟨rfl, rfl⟩ := lineD_inj (a := a) (b := b) (c := e) (d := f) (by rw [h1])
  obtain ⟨rfl, rfl⟩ := lineD_inj (a := c) (b := d) (c := g) (d := i) (by rw [h2])
  exact ⟨rfl, rfl, rfl, rfl⟩
theorem bool_iff {b c : Bool} {p : Prop} (h : b = true ↔ p) (k : c = true ↔ p) : b = c := by
  cases b <;> cases c <;> simp_all

def pre_is_not_faster : List PyData → Prop := fun ds => ∃ dd ss ee ts : List Fr, ds = [lineD dd ss, lineD ee ts] ∧ LB dd ss ∧ LB ee ts
def post_is_not_faster : List PyData → PyData → Prop := fun ds d => ∃ (dd ss ee ts : List Fr) (b : Bool), ds = [lineD dd ss, lineD ee ts] ∧ d = .bool b ∧ (b = true ↔ NF dd ss ee ts)
abbrev sp_is_not_faster (K : PySem.W.Frag) : Sp := SpP K pre_is_not_faster post_is_not_faster
theorem len_is_not_faster (K : PySem.W.Frag) (vs : List V) (H : Hp) (Q : VK) (E : XK) (h : sp_is_not_faster K vs H Q E) : vs.length = p_is_not_faster.length := len_P (n := 2) h fun ds hp => by
  obtain ⟨dd, ss, ee, ts, e, h, k⟩ := hp
  rw [e]; rfl
def t_is_not_faster (K : PySem.W.Frag) : TS :=
  (tSeq (tIfS (tTest (tOp rNe (tCB (rLenQ K) (tCons (tOp (rIx K) (tVar 0) (tC (.int 0))) tNil)) (tCB (rLenQ K) (tCons (tOp (rIx K) (tVar 1) (tC (.int 0))) tNil)))) (tRet (tC (.bl false))) tNext)
  (tRet (tAndV (tCall (sp_is_not_above K) [] E0 (tCons (tOp (rIx K) (tVar 1) (tC (.int 0))) (tCons (tOp (rIx K) (tVar 0) (tC (.int 0))) tNil))) (tCall (sp_is_not_above K) [] E0 (tCons (tOp (rIx K) (tVar 0) (tC (.int 1))) (tCons (tOp (rIx K) (tVar 1) (tC (.int 1))) tNil))))))
theorem pure_is_not_faster (K : PySem.W.Frag) (vs : List V) (H : Hp) (Q : VK) (E : XK) (h : sp_is_not_faster K vs H Q E) : t_is_not_faster K { nx := fun _ H' => Q .non H', rt := Q } (L2.start N_is_not_faster vs) H := body_P h fun B ds hW hp => by
  obtain ⟨dd, ss, ee, ts, e, h, k⟩ := hp
  subst e
  unfold t_is_not_faster

  have c8 := h.c8
  have hl := h.len
  have kl := k.len
  refine st_seq (st_if (et_test (ev_op (ev_cb (ea_cons (ev_op (ev_var rfl (ev_int (rok_ixsT (d := .tuple (dd.map frD)) rfl (ea_nil (co_lenT (ev_cb (ea_cons (ev_op (ev_var rfl (ev_int (rok_ixsT (d := .tuple (ee.map frD)) rfl (ea_nil (co_lenT (rok_neI ⟨_, rfl, fun hb => ?_, fun hb => ?_⟩))))))))))))))))))))
  · rw [List.length_map, List.length_map] at hb
    have hb : ¬ ((dd.length : Int) = (ee.length : Int)) := by simpa using hb
    refine st_ret (ev_bl ⟨dd, ss, ee, ts, false, rfl, rfl, (fun z => nomatch z), fun q => ?_⟩)
    exact (hb (by rw [q.1])).elim
  · rw [List.length_map, List.length_map] at hb
    have hb : ((dd.length : Int) = (ee.length : Int)) := by simpa using hb
    refine st_next (st_ret (ev_andV (ev_callP (ea_cons (ev_op (ev_var rfl (ev_int (rok_ixsT (d := .tuple (ee.map frD)) rfl (ea_cons (ev_op (ev_var rfl (ev_int (rok_ixsT (d := .tuple (dd.map frD)) rfl (ea_nil ⟨⟨ee, dd, rfl, by omega, by omega, k.sd, h.sd⟩, fun d ⟨r', s', b, e, ed, eb⟩ => ?_⟩))))))))))))))
    obtain ⟨rfl, rfl⟩ := rr_inj e
    refine ⟨b, ed, fun hb2 => ?_, fun hb2 => ⟨dd, ss, ee, ts, false, rfl, rfl, (fun z => nomatch z), fun q => ?_⟩⟩
    · refine ev_callP (ea_cons (ev_op (ev_var rfl (ev_int (rok_ixsT (d := .tuple (ss.map frD)) rfl (ea_cons (ev_op (ev_var rfl (ev_int (rok_ixsT (d := .tuple (ts.map frD)) rfl (ea_nil ⟨⟨ss, ts, rfl, by omega, by omega, h.sq, k.sq⟩, fun d ⟨r', s', b', e, ed, eb2⟩ => ?_⟩)))))))))))
      obtain ⟨rfl, rfl⟩ := rr_inj e
      refine ⟨dd, ss, ee, ts, b', rfl, ed, eb2.trans ⟨fun q => ⟨by omega, fun i hi => eb.mp hb2 i (by omega), q⟩, fun q => q.2.2⟩⟩
    · have : b = true := eb.mpr fun i hi => q.2.1 i (by omega)
      rw [hb2] at this
      cases this
theorem ok_is_not_faster (T : Tx K mg) : FnOk P w K mg base CX0 4 T.a_is_not_faster T.d_is_not_faster p_is_not_faster (sp_is_not_faster K) := by
  refine T.F_is_not_faster.ok sc_is_not_faster (fun vs H Q E h => len_is_not_faster K vs H Q E h) (fun cdv A outer s H vs Q E hr h => ?_)
  exact ⟨t_is_not_faster K, (pss_cons (ps_if (pt_cmpR op_ne (pe_callB call_len_seq (by rfl) T.n_len (by decide +kernel) (pa_cons (pe_ix ix_seq (pv 0) pe_int (fun _ _ => rfl)) pa_nil)) (pe_callB call_len_seq (by rfl) T.n_len (by decide +kernel) (pa_cons (pe_ix ix_seq (pv 1) pe_int (fun _ _ => rfl)) pa_nil)) (nomark _)) (pss_one (ps_ret pe_bl)) pss_nil)
  (pss_one (ps_ret (pe_and (pe_call (ok_is_not_above T) (hr.mono (by decide)) rfl T.g_is_not_above T.F_is_not_above.kp (b_is_not_above T) .nil pass0 (pa_cons (pe_ix ix_seq (pv 1) pe_int (fun _ _ => rfl)) (pa_cons (pe_ix ix_seq (pv 0) pe_int (fun _ _ => rfl)) pa_nil))) (pe_one (pe_call (ok_is_not_above T) (hr.mono (by decide)) rfl T.g_is_not_above T.F_is_not_above.kp (b_is_not_above T) .nil pass0 (pa_cons (pe_ix ix_seq (pv 0) pe_int (fun _ _ => rfl)) (pa_cons (pe_ix ix_seq (pv 1) pe_int (fun _ _ => rfl)) pa_nil)))))))), pure_is_not_faster K vs H Q E h⟩
/-! ### is_box -/

def pre_is_box : List PyData → Prop := fun ds => ∃ v, ds = [v] ∧ ((∃ n, Ok n v) ∨ ∃ es, v = .dict es)
def post_is_box : List PyData → PyData → Prop := fun ds d => ∃ (v : PyData) (b : Bool), ds = [v] ∧ d = .bool b ∧ (b = true ↔ BoxP v)
abbrev sp_is_box (K : PySem.W.Frag) : Sp := SpP K pre_is_box post_is_box
theorem len_is_box (K : PySem.W.Frag) (vs : List V) (H : Hp) (Q : VK) (E : XK) (h : sp_is_box K vs H Q E) : vs.length = p_is_box.length := len_P (n := 1) h fun ds hp => by
  obtain ⟨v, e, ho⟩ := hp
  rw [e]; rfl
def t_is_box (K : PySem.W.Frag) : TS :=
  (tSeq (tIfS (tOr (tNot (tB (tCB (rIsi K) (tCons (tVar 0) (tCons (tC (.ty "tuple")) tNil))))) (tTest (tOp rNe (tCB (rLenQ K) (tCons (tVar 0) tNil)) (tC (.int 2))))) (tRet (tC (.bl false))) tNext)
  (tSeq (tAsg (tVar 0) (gTup K 2 (gCons (gName 1) (gCons (gName 2) gNil))))
  (tRet (tAndV (tCall (sp_is_line K) [] E0 (tCons (tVar 1) tNil)) (tAndV (tCall (sp_is_line K) [] E0 (tCons (tVar 2) tNil)) (tCall (sp_is_not_faster K) [] E0 (tCons (tVar 1) (tCons (tVar 2) tNil))))))))
theorem pure_is_box (K : PySem.W.Frag) (vs : List V) (H : Hp) (Q : VK) (E : XK) (h : sp_is_box K vs H Q E) : t_is_box K { nx := fun _ H' => Q .non H', rt := Q } (L2.start N_is_box vs) H := body_P h fun B ds hW hp => by
  obtain ⟨v, e, ho⟩ := hp
  subst e
  unfold t_is_box

  refine st_seq (st_if (et_or (et_not (et_B (ev_isiTup (ev_var rfl ⟨_, rfl, fun hb => ?_, fun hb => ⟨fun _ => ?_, fun z => nomatch z⟩⟩))))))
  · obtain ⟨xs, rfl⟩ := isTupT_true (d := v) (by simpa using hb)
    refine et_test (ev_op (ev_cb (ea_cons (ev_var rfl (ea_nil (co_lenT (ev_int (rok_neI ⟨_, rfl, fun hb => ?_, fun hb => ?_⟩))))))))
    · have hb : ¬ ((xs.length : Int) = 2) := by simpa using hb
      refine st_ret (ev_bl ⟨_, false, rfl, rfl, (fun z => nomatch z), fun ⟨dd, ss, ee, ts, e, _⟩ => ?_⟩)
      cases e
      exact (hb rfl).elim
    · have hb : ((xs.length : Int) = 2) := by simpa using hb
      obtain ⟨a, b, rfl⟩ : ∃ a b, xs = [a, b] := by
        match xs, hb with
        | [a, b], _ => exact ⟨a, b, rfl⟩
        | [], h => cases h
        | [_], h => cases h
        | _ :: _ :: _ :: _, h => simp at h; omega
      refine st_next (st_seq (st_unpack (ev_var rfl ⟨_, rfl, rfl, tg_cons (tg_cons (tg_nil ?_))⟩)))
      have no1 : isLineD a = false → ¬ BoxP (.tuple [a, b]) := fun q ⟨dd, ss, ee, ts, e, h1, h2, _⟩ => by
        cases e
        rw [lineD_ll h1] at q
        cases q
      have no2 : isLineD b = false → ¬ BoxP (.tuple [a, b]) := fun q ⟨dd, ss, ee, ts, e, h1, h2, _⟩ => by
        cases e
        rw [lineD_ll h2] at q
        cases q
      refine st_ret (ev_andV (ev_callP (ea_cons (ev_var rfl (ea_nil ⟨⟨_, rfl⟩, fun d ⟨v', ev, ed⟩ => ?_⟩)))))
      cases ev
      refine ⟨_, ed, fun q1 => ?_, fun q1 => ⟨_, false, rfl, rfl, (fun z => nomatch z), fun z => (no1 q1 z).elim⟩⟩
      refine ev_andV (ev_callP (ea_cons (ev_var rfl (ea_nil ⟨⟨_, rfl⟩, fun d ⟨v', ev, ed⟩ => ?_⟩))))
      cases ev
      refine ⟨_, ed, fun q2 => ?_, fun q2 => ⟨_, false, rfl, rfl, (fun z => nomatch z), fun z => (no2 q2 z).elim⟩⟩
      obtain ⟨dd, ss, rfl, h1⟩ := line_ll q1
      obtain ⟨ee, ts, rfl, h2⟩ := line_ll q2
      have both : LB dd ss ∧ LB ee ts := by
        rcases ho with ⟨n, ho⟩ | ⟨es, ho⟩
        · cases n with
          | zero => exact ho.elim
          | succ n =>
            obtain ⟨_, q⟩ := ho.items
            exact ⟨line_lb (q _ (List.mem_cons_self ..)) h1, line_lb (q _ (List.mem_cons_of_mem _ (List.mem_cons_self ..))) h2⟩
        · cases ho
      refine ev_callP (ea_cons (ev_var rfl (ea_cons (ev_var rfl (ea_nil ⟨⟨dd, ss, ee, ts, rfl, both.1, both.2⟩, fun d ⟨d1, s1, e1, t1, b, e, ed, eb⟩ => ?_⟩)))))
      obtain ⟨rfl, rfl, rfl, rfl⟩ := ll_inj e
      refine ⟨_, b, rfl, ed, eb.trans ⟨fun q => ⟨dd, ss, ee, ts, rfl, h1, h2, q⟩, fun ⟨d1, s1, e1, t1, e, _, _, q⟩ => ?_⟩⟩
      obtain ⟨rfl, rfl, rfl, rfl⟩ := ll_inj (PyData.tuple.inj e)
      exact q
  · refine st_ret (ev_bl ⟨v, false, rfl, rfl, (fun z => nomatch z), fun ⟨dd, ss, ee, ts, e, _⟩ => ?_⟩)
    subst e
    cases hb
theorem ok_is_box (T : Tx K mg) : FnOk P w K mg base CX0 6 T.a_is_box T.d_is_box p_is_box (sp_is_box K) := by
  refine T.F_is_box.ok sc_is_box (fun vs H Q E h => len_is_box K vs H Q E h) (fun cdv A outer s H vs Q E hr h => ?_)
  exact ⟨t_is_box K, (pss_cons (ps_if (PW.pt (pw_or (pt_not (pt_val (pe_callB call_isi (by rfl) T.n_isinstance (by decide +kernel) (pa_cons (pv 0) (pa_cons (pe_bltn (v := .ty "tuple") (by rfl) T.n_tuple (by decide +kernel) rfl) pa_nil))))) (pw_or1 (pt_cmpR op_ne (pe_callB call_len_seq (by rfl) T.n_len (by decide +kernel) (pa_cons (pv 0) pa_nil)) pe_int (nomark _))))) (pss_one (ps_ret pe_bl)) pss_nil)
  (pss_cons (ps_asg (pv 0) (pg_tup (by rfl) (pgs_cons (pg_name (i := 1) sc_is_box.nd rfl (Or.inl rfl)) (pgs_cons (pg_name (i := 2) sc_is_box.nd rfl (Or.inl rfl)) pgs_nil))))
  (pss_one (ps_ret (pe_and (pe_call (ok_is_line T) (hr.mono (by decide)) rfl T.g_is_line T.F_is_line.kp (b_is_line T) .nil pass0 (pa_cons (pv 1) pa_nil)) (pe_and (pe_call (ok_is_line T) (hr.mono (by decide)) rfl T.g_is_line T.F_is_line.kp (b_is_line T) .nil pass0 (pa_cons (pv 2) pa_nil)) (pe_one (pe_call (ok_is_not_faster T) (hr.mono (by decide)) rfl T.g_is_not_faster T.F_is_not_faster.kp (b_is_not_faster T) .nil pass0 (pa_cons (pv 1) (pa_cons (pv 2) pa_nil)))))))))), pure_is_box K vs H Q E h⟩
/-! ### check_box -/

def pre_check_box : List PyData → Prop := fun ds => ∃ v, ds = [v] ∧ (∃ n, Ok n v) ∧ BoxP v
def post_check_box : List PyData → PyData → Prop := fun ds d => d = .none
abbrev sp_check_box (K : PySem.W.Frag) : Sp := SpP K pre_check_box post_check_box
theorem len_check_box (K : PySem.W.Frag) (vs : List V) (H : Hp) (Q : VK) (E : XK) (h : sp_check_box K vs H Q E) : vs.length = p_check_box.length := len_P (n := 1) h fun ds hp => by
  obtain ⟨v, e, ho, hb⟩ := hp
  rw [e]; rfl
def t_check_box (K : PySem.W.Frag) : TS :=
  (tIfS (tNot (tB (tCall (sp_is_box K) [] E0 (tCons (tVar 0) tNil)))) tNever tNext)
theorem pure_check_box (K : PySem.W.Frag) (vs : List V) (H : Hp) (Q : VK) (E : XK) (h : sp_check_box K vs H Q E) : t_check_box K { nx := fun _ H' => Q .non H', rt := Q } (L2.start N_check_box vs) H := body_P h fun B ds hW hp => by
  obtain ⟨v, e, ho, hb⟩ := hp
  subst e
  unfold t_check_box

  refine st_if (et_not (et_B (ev_callP (ea_cons (ev_var rfl (ea_nil ⟨⟨_, rfl, .inl ho⟩, fun d ⟨v', b, ev, ed, eb⟩ => ?_⟩))))))
  cases ev
  rw [eb.mpr hb] at ed
  exact ⟨_, ed, (fun z => nomatch z), fun _ => st_next rfl⟩
theorem ok_check_box (T : Tx K mg) : FnOk P w K mg base CX0 7 T.a_check_box T.d_check_box p_check_box (sp_check_box K) := by
  refine T.F_check_box.ok sc_check_box (fun vs H Q E h => len_check_box K vs H Q E h) (fun cdv A outer s H vs Q E hr h => ?_)
  exact ⟨t_check_box K, (pss_one (ps_if (pt_not (pt_val (pe_call (ok_is_box T) (hr.mono (by decide)) rfl T.g_is_box T.F_is_box.kp (b_is_box T) .nil pass0 (pa_cons (pv 0) pa_nil)))) (pss_one ps_never) pss_nil)), pure_check_box K vs H Q E h⟩
/-! ### is_in_box -/

def pre_is_in_box : List PyData → Prop := fun ds => ∃ dd ss ee ts ff us : List Fr, ds = [.tuple [lineD dd ss, lineD ee ts], lineD ff us] ∧ LB dd ss ∧ LB ee ts ∧ NF dd ss ee ts ∧ LB ff us
def post_is_in_box : List PyData → PyData → Prop := fun ds d => ∃ (dd ss ee ts ff us : List Fr) (b : Bool), ds = [.tuple [lineD dd ss, lineD ee ts], lineD ff us] ∧ d = .bool b ∧ (b = true ↔ NF dd ss ff us ∧ NF ff us ee ts)
abbrev sp_is_in_box (K : PySem.W.Frag) : Sp := SpP K pre_is_in_box post_is_in_box
theorem len_is_in_box (K : PySem.W.Frag) (vs : List V) (H : Hp) (Q : VK) (E : XK) (h : sp_is_in_box K vs H Q E) : vs.length = p_is_in_box.length := len_P (n := 2) h fun ds hp => by
  obtain ⟨dd, ss, ee, ts, ff, us, e, h1, h2, hb, h3⟩ := hp
  rw [e]; rfl
def t_is_in_box (K : PySem.W.Frag) : TS :=
  (tSeq (tDrop (tCall (sp_check_box K) [] E0 (tCons (tVar 0) tNil)))
  (tSeq (tDrop (tCall (sp_check_line K) [] E0 (tCons (tVar 1) tNil)))
  (tRet (tAndV (tCall (sp_is_not_faster K) [] E0 (tCons (tOp (rIx K) (tVar 0) (tC (.int 0))) (tCons (tVar 1) tNil))) (tCall (sp_is_not_faster K) [] E0 (tCons (tVar 1) (tCons (tOp (rIx K) (tVar 0) (tC (.int 1))) tNil)))))))
theorem pure_is_in_box (K : PySem.W.Frag) (vs : List V) (H : Hp) (Q : VK) (E : XK) (h : sp_is_in_box K vs H Q E) : t_is_in_box K { nx := fun _ H' => Q .non H', rt := Q } (L2.start N_is_in_box vs) H := body_P h fun B ds hW hp => by
  obtain ⟨dd, ss, ee, ts, ff, us, e, h1, h2, hb, h3⟩ := hp
  subst e
  unfold t_is_in_box

  refine st_seq (st_drop (ev_callP (ea_cons (ev_var rfl (ea_nil ⟨⟨_, rfl, ⟨4, ok_two h1.ok h2.ok⟩, dd, ss, ee, ts, rfl, h1.toLL, h2.toLL, hb⟩, fun d ed => ?_⟩)))))
  refine st_seq (st_drop (ev_callP (ea_cons (ev_var rfl (ea_nil ⟨⟨_, rfl, lineD_ll h3.toLL⟩, fun d ed => ?_⟩)))))
  refine st_ret (ev_andV (ev_callP (ea_cons (ev_op (ev_var rfl (ev_int (rok_ixsT (d := lineD dd ss) rfl (ea_cons (ev_var rfl (ea_nil ⟨⟨dd, ss, ff, us, rfl, h1, h3⟩, fun d ⟨d1, s1, e1, t1, b, e, ed, eb⟩ => ?_⟩))))))))))
  obtain ⟨rfl, rfl, rfl, rfl⟩ := ll_inj e
  refine ⟨b, ed, fun q => ?_, fun q => ⟨dd, ss, ee, ts, ff, us, false, rfl, rfl, (fun z => nomatch z), fun z => ?_⟩⟩
  · refine ev_callP (ea_cons (ev_var rfl (ea_cons (ev_op (ev_var rfl (ev_int (rok_ixsT (d := lineD ee ts) rfl (ea_nil ⟨⟨ff, us, ee, ts, rfl, h3, h2⟩, fun d ⟨d1, s1, e1, t1, b2, e, ed, eb2⟩ => ?_⟩))))))))
    obtain ⟨rfl, rfl, rfl, rfl⟩ := ll_inj e
    exact ⟨dd, ss, ee, ts, ff, us, b2, rfl, ed, eb2.trans ⟨fun z => ⟨eb.mp q, z⟩, fun z => z.2⟩⟩
  · have := eb.mpr z.1
    rw [q] at this
    cases this
theorem ok_is_in_box (T : Tx K mg) : FnOk P w K mg base CX0 8 T.a_is_in_box T.d_is_in_box p_is_in_box (sp_is_in_box K) := by
  refine T.F_is_in_box.ok sc_is_in_box (fun vs H Q E h => len_is_in_box K vs H Q E h) (fun cdv A outer s H vs Q E hr h => ?_)
  exact ⟨t_is_in_box K, (pss_cons (ps_expr (pe_call (ok_check_box T) (hr.mono (by decide)) rfl T.g_check_box T.F_check_box.kp (b_check_box T) .nil pass0 (pa_cons (pv 0) pa_nil)))
  (pss_cons (ps_expr (pe_call (ok_check_line T) (hr.mono (by decide)) rfl T.g_check_line T.F_check_line.kp (b_check_line T) .nil pass0 (pa_cons (pv 1) pa_nil)))
  (pss_one (ps_ret (pe_and (pe_call (ok_is_not_faster T) (hr.mono (by decide)) rfl T.g_is_not_faster T.F_is_not_faster.kp (b_is_not_faster T) .nil pass0 (pa_cons (pe_ix ix_seq (pv 0) pe_int (fun _ _ => rfl)) (pa_cons (pv 1) pa_nil))) (pe_one (pe_call (ok_is_not_faster T) (hr.mono (by decide)) rfl T.g_is_not_faster T.F_is_not_faster.kp (b_is_not_faster T) .nil pass0 (pa_cons (pv 1) (pa_cons (pe_ix ix_seq (pv 0) pe_int (fun _ _ => rfl)) pa_nil))))))))), pure_is_in_box K vs H Q E h⟩
/-! ### _law_spool -/
def sp__law_spool (K : PySem.W.Frag) : Sp := fun vs H Q _ => ∃ (a : Addr) (ns : List Int) (n : Nat), vs = [.ref a, .int (n : Int)] ∧ SqL K H a (ns.map V.int) ∧ ns.length ≤ 63 ∧ n ≤ 100 ∧ ∀ p H', Same H H' → H p = none → WellAt H' p → Q (.ref p) H'
theorem len__law_spool (K : PySem.W.Frag) (vs : List V) (H : Hp) (Q : VK) (E : XK) (h : sp__law_spool K vs H Q E) : vs.length = p__law_spool.length := by
  obtain ⟨a, ns, n, rfl, _⟩ := h
  rfl
theorem cutV_ints (ns : List Int) (lo hi : Option Int) : ∃ ms : List Int, cutV (ns.map V.int) lo hi = ms.map V.int ∧ ms.length ≤ ns.length := by
  refine ⟨(ns.drop (HT.sIx ns.length 0 lo)).take (HT.sIx ns.length ns.length hi - HT.sIx ns.length 0 lo), ?_, ?_⟩
  · unfold L2.cutV
    rw [List.length_map, List.map_take, List.map_drop]
  · rw [List.length_take, List.length_drop]
    omega
def t__law_spool (K : PySem.W.Frag) : TS :=
  (tSeq (tAsg (tOp (rAddA K) (tC (.int 51287)) (tOp (rMulA K) (tC (.int 7919)) (tVar 1))) (gName 2))
  (tSeq (tFor (iList K (tSl (rSlX2 K) (tVar 0) tNoPart (tPart (tC (.int 63))))) (gName 3) (tAsg (tOp rModA (tCB rIntQ (tCons (tOp (rAddA K) (tOp (rAddA K) (tOp (rMulA K) (tVar 2) (tC (.int 28657))) (tOp rModA (tCB rIntQ (tCons (tVar 3) tNil)) (tC (.int 1610612741)))) (tC (.int 41))) tNil)) (tC (.int 2147483549))) (gName 2)))
  (tSeq (tAsg (tIf (tTest (tOp (rI0 fun i j => .bl (decide (i < j))) (tVar 1) (tCB (rLenQ K) (tCons (tVar 0) tNil)))) (tCB rIntQ (tCons (tOp (rIx K) (tVar 0) (tVar 1)) tNil)) (tC (.int 0))) (gName 3))
  (tSeq (tAsg (tIf (tTest (tOp (rI0 fun i j => .bl (decide (j ≤ i))) (tCB rAbsQ (tCons (tVar 3) tNil)) (tOp (rI CPow fun i j => .int (i ^ j.toNat)) (tC (.int 10)) (tC (.int 18))))) (tOp rFdA (tCB rAbsQ (tCons (tVar 3) tNil)) (tC (.int 2))) (tC (.int 0))) (gName 4))
  (tRet (tLst (tCons (tVar 4) (tCons (tOp (rAddA K) (tVar 2) (tOp (rMulA K) (tC (.int 17)) (tOp rModA (tCB rIntQ (tCons (tVar 3) tNil)) (tC (.int 120000007))))) (tCons (tC (.int 0)) tNil)))))))))
theorem pure__law_spool (K : PySem.W.Frag) (vs : List V) (H : Hp) (Q : VK) (E : XK) (h : sp__law_spool K vs H Q E) : t__law_spool K { nx := fun _ H' => Q .non H', rt := Q } (L2.start N__law_spool vs) H := by
  obtain ⟨a, ns, n, rfl, hS, hlen, hn, q⟩ := h
  unfold t__law_spool
  refine ⟨_, rfl, .inl ⟨_, _, rfl, rfl, .inl ⟨by decide, by decide⟩, .inl ⟨_, _, rfl, rfl, ?_⟩⟩⟩
  obtain ⟨ms, em, hm⟩ := cutV_ints ns none (some 63)
  refine ⟨_, rfl, 63, rfl, .inr ⟨a, _, rfl, hS, fun p hp => ?_⟩⟩
  rw [em]
  have s1 : Same H (upd H p (.lst (ms.map V.int))) := same_upd hp
  have e1 : (upd H p (.lst (ms.map V.int))) p = some (.lst (ms.map V.int)) := upd_same
  generalize upd H p (.lst (ms.map V.int)) = H1 at s1 e1 ⊢
  refine ⟨p, rfl, ⟨_, .inl (.inl e1)⟩, for_list (xs := ms.map V.int) (fun i σ H' => ∃ (m : Int) (v : Option V), σ = [some (.ref a), some (.int (n : Int)), some (.int m), v, none] ∧ 0 ≤ m ∧ m < 2147483549 ∧ Same H1 H')
    ⟨51287 + 7919 * (n : Int), none, rfl, by omega, by omega, Same.refl _⟩ (fun i σ H' _ ⟨m, v, _, _, _, s5⟩ => s5.seq (.inl (.inl e1))) (fun i x σ H' hi ⟨m, v, e, h0, h1, s5⟩ => ?_) (fun σ H' ⟨m, v, e, h0, h1, s5⟩ => ?_)⟩
  · subst e
    obtain ⟨z, rfl⟩ : ∃ z, x = V.int z := by
      rw [List.getElem?_map] at hi
      cases e : ms[i]? with
      | none => rw [e] at hi; cases hi
      | some z => rw [e] at hi; exact ⟨z, (Option.some.inj hi).symm⟩
    refine ⟨_, rfl, .inl ⟨_, _, rfl, rfl, .inl ⟨by omega, by omega⟩, _, rfl, .inl ⟨_, rfl, .inl ⟨_, _, rfl, rfl, (by show (0 : Int) < 1610612741; decide), .inl ⟨_, _, rfl, rfl, .inl ⟨_, _, rfl, rfl, .inl ⟨_, rfl, .inl ⟨_, _, rfl, rfl, (by show (0 : Int) < 2147483549; decide), ?_⟩⟩⟩⟩⟩⟩⟩⟩
    exact ⟨_, some (.int z), rfl, Int.emod_nonneg _ (by decide), Int.emod_lt_of_pos _ (by decide), s5⟩
  · subst e
    have hS' : SqL K H' a (ns.map V.int) := (s1.trans s5).seq hS
    have own : ∀ Q : VK, (∀ o : Int, Q (.int o) H') → (tIf (tTest (tOp (rI0 fun i j => .bl (decide (i < j))) (tVar 1) (tCB (rLenQ K) (tCons (tVar 0) tNil)))) (tCB rIntQ (tCons (tOp (rIx K) (tVar 0) (tVar 1)) tNil)) (tC (.int 0))) [some (.ref a), some (.int (n : Int)), some (.int m), v, none] H' Q := fun Q q => by
      refine ⟨_, rfl, _, rfl, a, _, rfl, .inl hS', _, _, rfl, rfl, _, rfl, ?_⟩
      refine ite2 (fun hb => ?_) (fun hb => ?_)
      · have hb' : n < ns.length := by
          have := of_decide_eq_true hb
          rw [List.length_map] at this
          omega
        exact ⟨_, rfl, _, rfl, .inl ⟨a, _, (n : Int), .int ns[n], rfl, rfl, hS', atI_nat (by rw [List.getElem?_map, List.getElem?_eq_getElem hb']; rfl), .inl ⟨_, rfl, q _⟩⟩⟩
      · exact q 0
    refine own _ fun o => ?_
    have hpow : (10 : Int) ^ (18 : Int).toNat = 1000000000000000000 := by decide
    have great : ∀ Q : VK, (∀ z : Int, 0 ≤ z → Q (.int z) H') → (tIf (tTest (tOp (rI0 fun i j => .bl (decide (j ≤ i))) (tCB rAbsQ (tCons (tVar 3) tNil)) (tOp (rI CPow fun i j => .int (i ^ j.toNat)) (tC (.int 10)) (tC (.int 18))))) (tOp rFdA (tCB rAbsQ (tCons (tVar 3) tNil)) (tC (.int 2))) (tC (.int 0))) [some (.ref a), some (.int (n : Int)), some (.int m), some (.int o), none] H' Q := fun Q q => by
      refine ⟨_, rfl, _, rfl, _, _, rfl, rfl, ⟨by decide, by decide, by decide⟩, _, _, rfl, rfl, _, rfl, ?_⟩
      refine ite2 (fun hb => ?_) (fun hb => ?_)
      · refine ⟨_, rfl, _, rfl, .inl ⟨_, _, rfl, rfl, ⟨by decide, by decide⟩, q _ ?_⟩⟩
        exact Int.ediv_nonneg (by split <;> omega) (by decide)
      · exact q 0 (Int.le_refl _)
    refine great _ fun z hz => ?_
    refine ⟨_, rfl, _, rfl, _, rfl, .inl ⟨_, rfl, .inl ⟨_, _, rfl, rfl, (by show (0 : Int) < 120000007; decide), .inl ⟨_, _, rfl, rfl, .inl ⟨by decide, by decide⟩, .inl ⟨_, _, rfl, rfl, (by show 3 ≤ sizeLine; decide), fun p5 hp5 => ?_⟩⟩⟩⟩⟩
    have o0 := Int.emod_nonneg o (show (120000007 : Int) ≠ 0 by decide)
    have o1 := Int.emod_lt_of_pos o (show (0 : Int) < 120000007 by decide)
    exact q p5 _ ((s1.trans s5).trans (same_upd hp5)) ((s1.trans s5).free hp5) ⟨z, m + 17 * (o % 120000007), 0, upd_same, hz, by omega, by omega⟩
theorem ok__law_spool (T : Tx K mg) : FnOk P w K mg base CX0 1 T.a__law_spool T.d__law_spool p__law_spool (sp__law_spool K) := by
  refine T.F__law_spool.ok sc__law_spool (fun vs H Q E h => len__law_spool K vs H Q E h) (fun cdv A outer s H vs Q E hr h => ?_)
  exact ⟨t__law_spool K, (pss_cons (ps_set (i := 2) sc__law_spool.nd rfl (Or.inl rfl) (pe_op op_addA pe_int (pe_op op_mulA pe_int (pv 1))))
  (pss_cons (ps_for PassesOwn.never rfl (pi_list (pe_slice sl_any (pv 0) po_none (po_some pe_int))) (pg_name (i := 3) sc__law_spool.nd rfl (Or.inl rfl)) (pss_one (ps_set (i := 2) sc__law_spool.nd rfl (Or.inl rfl) (pe_op op_modA (pe_callTy call_int1 (by rfl) T.n_int (by decide +kernel) (pa_cons (pe_op op_addA (pe_op op_addA (pe_op op_mulA (pv 2) pe_int) (pe_op op_modA (pe_callTy call_int1 (by rfl) T.n_int (by decide +kernel) (pa_cons (pv 3) pa_nil)) pe_int)) pe_int) pa_nil)) pe_int))))
  (pss_cons (ps_set (i := 3) sc__law_spool.nd rfl (Or.inl rfl) (pe_ifExp (pt_cmpR op_lt (pv 1) (pe_callB call_len_seq (by rfl) T.n_len (by decide +kernel) (pa_cons (pv 0) pa_nil)) (nomark _)) (pe_callTy call_int1 (by rfl) T.n_int (by decide +kernel) (pa_cons (pe_ix ix_seq (pv 0) (pv 1) (fun _ _ => rfl)) pa_nil)) pe_int))
  (pss_cons (ps_set (i := 4) sc__law_spool.nd rfl (Or.inl rfl) (pe_ifExp (pt_cmpR op_ge (pe_callB call_abs (by rfl) T.n_abs (by decide +kernel) (pa_cons (pv 3) pa_nil)) (pe_op op_pow pe_int pe_int) (nomark _)) (pe_op op_fdA (pe_callB call_abs (by rfl) T.n_abs (by decide +kernel) (pa_cons (pv 3) pa_nil)) pe_int) pe_int))
  (pss_one (ps_ret (pe_lst (pa_cons (pv 4) (pa_cons (pe_op op_addA (pv 2) (pe_op op_mulA pe_int (pe_op op_modA (pe_callTy call_int1 (by rfl) T.n_int (by decide +kernel) (pa_cons (pv 3) pa_nil)) pe_int))) (pa_cons pe_int pa_nil)))))))))), pure__law_spool K vs H Q E h⟩
/-! ### _law_wind -/

def pre__law_wind : List PyData → Prop := fun ds => ∃ m : Int, ds = [.int m] ∧ 0 < m ∧ m < 1000001
def post__law_wind : List PyData → PyData → Prop := fun ds d => ∃ m z : Int, ds = [.int m] ∧ d = .int z ∧ 0 ≤ z ∧ z < m
abbrev sp__law_wind (K : PySem.W.Frag) : Sp := SpW K pre__law_wind post__law_wind
theorem len__law_wind (K : PySem.W.Frag) (vs : List V) (H : Hp) (Q : VK) (E : XK) (h : sp__law_wind K vs H Q E) : vs.length = p__law_wind.length := len_W (n := 1) h fun ds hp => by
  obtain ⟨m, e, hm0, hm1⟩ := hp
  rw [e]; rfl
def t__law_wind (K : PySem.W.Frag) : TS :=
  (tSeq (tIfS (tTest (tOp (rI0 fun i j => .bl (decide (j < i))) (tOp (rIx K) (tVar 0) (tC (.int 0))) (tC (.int 0)))) (tSeq (tAsg (tCB rDivmodQ (tCons (tOp (rIx K) (tVar 0) (tC (.int 0))) (tCons (tVar 1) tNil))) (gTup K 2 (gCons (gSub (tVar 0) (tC (.int 0)) rSetL) (gCons (gName 2) gNil))))
  (tRet (tVar 2))) tNext)
  (tSeq (tAsg (tOp (rAddA K) (tOp (rIx K) (tVar 0) (tC (.int 2))) (tC (.int 1))) (gSub (tVar 0) (tC (.int 2)) rSetL))
  (tSeq (tAsg (tOp rModA (tCB rIntQ (tCons (tOp (rAddA K) (tOp (rAddA K) (tOp (rIx K) (tVar 0) (tC (.int 1))) (tOp (rMulA K) (tC (.int 60293)) (tOp (rIx K) (tVar 0) (tC (.int 2))))) (tC (.int 7))) tNil)) (tC (.int 2147483549))) (gName 3))
  (tSeq (tAsg (tOp rModA (tCB rIntQ (tCons (tOp (rAddA K) (tOp (rMulA K) (tVar 3) (tOp (rAddA K) (tOp rModA (tCB rIntQ (tCons (tVar 3) tNil)) (tC (.int 5059))) (tC (.int 17417)))) (tOp (rMulA K) (tC (.int 19)) (tOp (rIx K) (tVar 0) (tC (.int 2))))) tNil)) (tC (.int 2147483549))) (gSub (tVar 0) (tC (.int 1)) rSetL))
  (tRet (tOp rModA (tCB rIntQ (tCons (tOp rFdA (tOp (rIx K) (tVar 0) (tC (.int 1))) (tC (.int 127))) tNil)) (tVar 1)))))))
theorem pure__law_wind (K : PySem.W.Frag) (vs : List V) (H : Hp) (Q : VK) (E : XK) (h : sp__law_wind K vs H Q E) : t__law_wind K { nx := fun _ H' => Q .non H', rt := Q } (L2.start N__law_wind vs) H := body_W h (by decide) fun B w ds hp => by
  obtain ⟨m, e, hm0, hm1⟩ := hp
  subst e
  unfold t__law_wind
  refine st_seq (st_if (et_test (ev_op ?_)))
  refine ev_well rfl (ev_int ⟨0, rfl, .inl rfl, fun n hn _ => ?_⟩)
  refine ev_int (rok_b0 ⟨_, rfl, fun hb => ?_, fun hb => ?_⟩)
  · refine st_seq (st_dmWell rfl ?_)
    refine ea_cons (ev_well rfl (ev_int ⟨0, rfl, .inl rfl, fun n hn _ => ea_cons (ev_var rfl (ea_nil ⟨n, m, rfl, hn rfl, hm0, by omega, ?_⟩))⟩))
    refine st_ret (ev_var rfl ⟨m, _, rfl, rfl, Int.emod_nonneg _ (by omega), Int.emod_lt_of_pos _ hm0⟩)
  · refine st_next (st_seq (st_setWell rfl ?_))
    refine ev_op (ev_well rfl (ev_int ⟨2, rfl, .inr (.inr rfl), fun n _ _ => ?_⟩))
    refine ev_int (ro_add ?_)
    refine ev_int ⟨_, 2, rfl, rfl, .inr (.inr rfl), by omega, by omega, ?_⟩
    refine st_seq (st_asg ?_)
    refine ev_op (ev_cb (ea_cons (ev_op (ev_op (ev_well rfl (ev_int ⟨1, rfl, .inr (.inl rfl), fun b _ hb => ?_⟩))))))
    refine ev_op (ev_int (ev_well rfl (ev_int ⟨2, rfl, .inr (.inr rfl), fun c _ _ => ?_⟩)))
    refine ro_mul (.inl (by decide)) (ro_add ?_)
    refine ev_int (ro_add (ea_nil (co_int (ev_int (ro_mod (by decide) ?_)))))
    have t0 := Int.emod_nonneg (b + 60293 * c + 7) (show (2147483549 : Int) ≠ 0 by decide)
    have t1 := Int.emod_lt_of_pos (b + 60293 * c + 7) (show (0 : Int) < 2147483549 by decide)
    generalize (b + 60293 * c + 7) % 2147483549 = t at t0 t1 ⊢
    refine st_seq (st_setWell rfl ?_)
    refine ev_op (ev_cb (ea_cons (ev_op (ev_op (ev_var rfl (ev_op (ev_op (ev_cb (ea_cons (ev_var rfl (ea_nil (co_int (ev_int (ro_mod (by decide) ?_))))))))))))))
    refine ev_int (ro_add (ro_mul (.inl ⟨by omega, by omega⟩) ?_))
    refine ev_op (ev_int (ev_well rfl (ev_int ⟨2, rfl, .inr (.inr rfl), fun c2 _ _ => ?_⟩)))
    refine ro_mul (.inl (by decide)) (ro_add (ea_nil (co_int (ev_int (ro_mod (by decide) ?_)))))
    refine ev_int ⟨_, 1, rfl, rfl, .inr (.inl rfl), by omega, fun _ => ⟨Int.emod_nonneg _ (by decide), Int.lt_trans (Int.emod_lt_of_pos _ (by decide)) (by decide)⟩, ?_⟩
    refine st_ret (ev_op (ev_cb (ea_cons (ev_op (ev_well rfl (ev_int ⟨1, rfl, .inr (.inl rfl), fun b _ hb => ?_⟩))))))
    refine ev_int (ro_fd (by decide) (ea_nil (co_int (ev_var rfl (ro_mod hm0 ?_)))))
    exact ⟨m, _, rfl, rfl, Int.emod_nonneg _ (by omega), Int.emod_lt_of_pos _ hm0⟩
theorem ok__law_wind (T : Tx K mg) : FnOk P w K mg base CX0 1 T.a__law_wind T.d__law_wind p__law_wind (sp__law_wind K) := by
  refine T.F__law_wind.ok sc__law_wind (fun vs H Q E h => len__law_wind K vs H Q E h) (fun cdv A outer s H vs Q E hr h => ?_)
  exact ⟨t__law_wind K, (pss_cons (ps_if (pt_cmpR op_gt (pe_ix ix_seq (pv 0) pe_int (fun _ _ => rfl)) pe_int (nomark _)) (pss_cons (ps_asg (pe_callB call_divmodW (by rfl) T.n_divmod (by decide +kernel) (pa_cons (pe_ix ix_seq (pv 0) pe_int (fun _ _ => rfl)) (pa_cons (pv 1) pa_nil))) (pg_tup (by rfl) (pgs_cons (pg_sub (pv 0) pe_int set_list) (pgs_cons (pg_name (i := 2) sc__law_wind.nd rfl (Or.inl rfl)) pgs_nil))))
  (pss_one (ps_ret (pv 2)))) pss_nil)
  (pss_cons (ps_asg (pe_op op_addA (pe_ix ix_seq (pv 0) pe_int (fun _ _ => rfl)) pe_int) (pg_sub (pv 0) pe_int set_list))
  (pss_cons (ps_set (i := 3) sc__law_wind.nd rfl (Or.inl rfl) (pe_op op_modA (pe_callTy call_int1 (by rfl) T.n_int (by decide +kernel) (pa_cons (pe_op op_addA (pe_op op_addA (pe_ix ix_seq (pv 0) pe_int (fun _ _ => rfl)) (pe_op op_mulA pe_int (pe_ix ix_seq (pv 0) pe_int (fun _ _ => rfl)))) pe_int) pa_nil)) pe_int))
  (pss_cons (ps_asg (pe_op op_modA (pe_callTy call_int1 (by rfl) T.n_int (by decide +kernel) (pa_cons (pe_op op_addA (pe_op op_mulA (pv 3) (pe_op op_addA (pe_op op_modA (pe_callTy call_int1 (by rfl) T.n_int (by decide +kernel) (pa_cons (pv 3) pa_nil)) pe_int) pe_int)) (pe_op op_mulA pe_int (pe_ix ix_seq (pv 0) pe_int (fun _ _ => rfl)))) pa_nil)) pe_int) (pg_sub (pv 0) pe_int set_list))
  (pss_one (ps_ret (pe_op op_modA (pe_callTy call_int1 (by rfl) T.n_int (by decide +kernel) (pa_cons (pe_op op_fdA (pe_ix ix_seq (pv 0) pe_int (fun _ _ => rfl)) pe_int) pa_nil)) (pv 1)))))))), pure__law_wind K vs H Q E h⟩
/-! ### _law_any -/

def pre__law_any : List PyData → Prop := fun ds => ∃ xs : List PyData, ds = [.list xs] ∧ 0 < xs.length ∧ xs.length < 1000
def post__law_any : List PyData → PyData → Prop := fun ds d => ∃ xs : List PyData, ds = [.list xs] ∧ d ∈ xs
abbrev sp__law_any (K : PySem.W.Frag) : Sp := SpW K pre__law_any post__law_any
theorem len__law_any (K : PySem.W.Frag) (vs : List V) (H : Hp) (Q : VK) (E : XK) (h : sp__law_any K vs H Q E) : vs.length = p__law_any.length := len_W (n := 1) h fun ds hp => by
  obtain ⟨xs, e, h0, h1⟩ := hp
  rw [e]; rfl
def t__law_any (K : PySem.W.Frag) : TS :=
  (tRet (tOp (rIx K) (tVar 1) (tCall (sp__law_wind K) [] E0 (tCons (tVar 0) (tCons (tCB (rLenQ K) (tCons (tVar 1) tNil)) tNil)))))
theorem pure__law_any (K : PySem.W.Frag) (vs : List V) (H : Hp) (Q : VK) (E : XK) (h : sp__law_any K vs H Q E) : t__law_any K { nx := fun _ H' => Q .non H', rt := Q } (L2.start N__law_any vs) H := body_W h (by decide) fun B w ds hp => by
  obtain ⟨xs, e, h0, h1⟩ := hp
  subst e
  unfold t__law_any
  refine st_ret (ev_op (ev_var rfl (ev_callW rfl ?_)))
  walk_at "dd"
  refine ⟨⟨_, rfl, by omega, by omega⟩, fun d ⟨m, z, em, ed, hz0, hz1⟩ => ?_⟩
  cases em
  subst ed
  obtain ⟨j, rfl⟩ := Int.eq_ofNat_of_zero_le hz0
  have hj : j < xs.length := by omega
  exact rok_ixsL (d := xs[j]) (atI_nat (List.getElem?_eq_getElem hj)) ⟨xs, rfl, List.getElem_mem hj⟩
theorem ok__law_any (T : Tx K mg) : FnOk P w K mg base CX0 2 T.a__law_any T.d__law_any p__law_any (sp__law_any K) := by
  refine T.F__law_any.ok sc__law_any (fun vs H Q E h => len__law_any K vs H Q E h) (fun cdv A outer s H vs Q E hr h => ?_)
  exact ⟨t__law_any K, (pss_one (ps_ret (pe_ix ix_seq (pv 1) (pe_call (ok__law_wind T) (hr.mono (by decide)) rfl T.g__law_wind T.F__law_wind.kp (b__law_wind T) .nil pass0 (pa_cons (pv 0) (pa_cons (pe_callB call_len_seq (by rfl) T.n_len (by decide +kernel) (pa_cons (pv 1) pa_nil)) pa_nil))) (fun _ _ => rfl)))), pure__law_any K vs H Q E h⟩
/-! ### _law_measure -/

def pre__law_measure : List PyData → Prop := fun ds => ∃ a b : Int, ds = [.int a, .int b]
def post__law_measure : List PyData → PyData → Prop := fun ds d => ∃ a b : Int, ds = [.int a, .int b] ∧ d = .int ((Nat.gcd a.natAbs b.natAbs : Nat) : Int)
abbrev sp__law_measure (K : PySem.W.Frag) : Sp := SpP K pre__law_measure post__law_measure
theorem len__law_measure (K : PySem.W.Frag) (vs : List V) (H : Hp) (Q : VK) (E : XK) (h : sp__law_measure K vs H Q E) : vs.length = p__law_measure.length := len_P (n := 2) h fun ds hp => by
  obtain ⟨a, b, e⟩ := hp
  rw [e]; rfl
def t__law_measure (K : PySem.W.Frag) : TS :=
  (tSeq (tPar 0 1 (tCons (tCB rAbsQ (tCons (tVar 0) tNil)) (tCons (tCB rAbsQ (tCons (tVar 1) tNil)) tNil)))
  (tSeq (tWhile (tTest (tOp (rI0 fun i j => .bl (decide (j < i))) (tVar 1) (tC (.int 0)))) (tPar 0 1 (tCons (tVar 1) (tCons (tOp rModA (tCB rIntQ (tCons (tVar 0) tNil)) (tVar 1)) tNil))))
  (tRet (tVar 0))))
theorem pure__law_measure (K : PySem.W.Frag) (vs : List V) (H : Hp) (Q : VK) (E : XK) (h : sp__law_measure K vs H Q E) : t__law_measure K { nx := fun _ H' => Q .non H', rt := Q } (L2.start N__law_measure vs) H := body_P h fun B ds hW hp => by
  obtain ⟨a, b, e⟩ := hp
  subst e
  unfold t__law_measure
  refine st_seq (st_par ?_)
  walk_at "dd"
  refine ⟨_, _, rfl, ?_⟩
  refine st_seq (st_while (fun m L2 Γ2 => ∃ x y : Int, L2 = [] ∧ Γ2 = [.d (.int x), .d (.int y)] ∧ 0 ≤ x ∧ 0 ≤ y ∧ m = y.toNat ∧ Nat.gcd x.natAbs y.natAbs = Nat.gcd a.natAbs b.natAbs) b.natAbs ⟨_, _, rfl, rfl, ?_, ?_, ?_, ?_⟩ ?_)
  · split <;> omega
  · split <;> omega
  · split <;> omega
  · congr 1 <;> (split <;> omega)
  · rintro m L2 Γ2 ⟨x, y, rfl, rfl, hx, hy, rfl, hg⟩
    walk_at "dd"
    refine ⟨fun hb => ?_, fun hb => ?_⟩
    · have hy' : 0 < y := of_decide_eq_true hb
      refine st_par ?_
      walk_at "dd"
      refine ro_mod hy' (ea_nil ⟨_, _, rfl, (x % y).toNat, ?_, y, x % y, rfl, rfl, hy, Int.emod_nonneg _ (by omega), rfl, ?_⟩)
      · have h1 := Int.emod_lt_of_pos x hy'
        have h2 := Int.emod_nonneg x (show y ≠ 0 by omega)
        omega
      · rw [← hg]
        have e1 : (x % y).natAbs = x.natAbs % y.natAbs := by
          obtain ⟨p, rfl⟩ := Int.eq_ofNat_of_zero_le hx
          obtain ⟨q, rfl⟩ := Int.eq_ofNat_of_zero_le hy
          rw [← Int.natCast_emod]
          simp only [Int.natAbs_natCast]
        rw [e1, Nat.gcd_comm x.natAbs y.natAbs, Nat.gcd_comm y.natAbs (x.natAbs % y.natAbs), ← Nat.gcd_rec]
    · have hy' : y = 0 := by
        have := of_decide_eq_false hb
        omega
      subst hy'
      refine st_ret (ev_var rfl ⟨a, b, rfl, ?_⟩)
      rw [← hg]
      show PyData.int x = PyData.int ((Nat.gcd x.natAbs 0 : Nat) : Int)
      rw [Nat.gcd_zero_right]
      congr 1
      omega
theorem ok__law_measure (T : Tx K mg) : FnOk P w K mg base CX0 1 T.a__law_measure T.d__law_measure p__law_measure (sp__law_measure K) := by
  refine T.F__law_measure.ok sc__law_measure (fun vs H Q E h => len__law_measure K vs H Q E h) (fun cdv A outer s H vs Q E hr h => ?_)
  exact ⟨t__law_measure K, (pss_cons (ps_par (by rfl) sc__law_measure.nd rfl rfl (by decide) rfl rfl (pa_cons (pe_callB call_abs (by rfl) T.n_abs (by decide +kernel) (pa_cons (pv 0) pa_nil)) (pa_cons (pe_callB call_abs (by rfl) T.n_abs (by decide +kernel) (pa_cons (pv 1) pa_nil)) pa_nil)) (by rfl))
  (pss_cons (ps_while PassesOwn.never (pt_cmpR op_gt (pv 1) pe_int (nomark _)) (pss_one (ps_par (by rfl) sc__law_measure.nd rfl rfl (by decide) rfl rfl (pa_cons (pv 1) (pa_cons (pe_op op_modA (pe_callTy call_int1 (by rfl) T.n_int (by decide +kernel) (pa_cons (pv 0) pa_nil)) (pv 1)) pa_nil)) (by rfl))))
  (pss_one (ps_ret (pv 0))))), pure__law_measure K vs H Q E h⟩
/-! ### _law_frac -/

def pre__law_frac : List PyData → Prop := fun ds => ∃ n m : Int, ds = [.int n, .int m] ∧ m ≠ 0 ∧ m.natAbs < 2 ^ 9000
def post__law_frac : List PyData → PyData → Prop := fun ds d => ∃ n m : Int, ds = [.int n, .int m] ∧ ∃ x : Fr, d = frD x ∧ FOk x ∧ val x = (n : Rat) / (m : Rat) ∧ x.1.natAbs ≤ n.natAbs ∧ x.2.natAbs ≤ m.natAbs
abbrev sp__law_frac (K : PySem.W.Frag) : Sp := SpP K pre__law_frac post__law_frac
theorem len__law_frac (K : PySem.W.Frag) (vs : List V) (H : Hp) (Q : VK) (E : XK) (h : sp__law_frac K vs H Q E) : vs.length = p__law_frac.length := len_P (n := 2) h fun ds hp => by
  obtain ⟨n, m, e, hm, hz⟩ := hp
  rw [e]; rfl
def t__law_frac (K : PySem.W.Frag) : TS :=
  (tSeq (tAsg (tCall (sp__law_measure K) [] E0 (tCons (tVar 0) (tCons (tVar 1) tNil))) (gName 2))
  (tRet (tIf (tTest (tOp (rI0 fun i j => .bl (decide (j < i))) (tVar 1) (tC (.int 0)))) (tTup (tCons (tOp rFdA (tVar 0) (tVar 2)) (tCons (tOp rFdA (tVar 1) (tVar 2)) tNil))) (tTup (tCons (tOp (rI0 fun i j => .int (i - j)) (tC (.int 0)) (tOp rFdA (tVar 0) (tVar 2))) (tCons (tOp (rI0 fun i j => .int (i - j)) (tC (.int 0)) (tOp rFdA (tVar 1) (tVar 2))) tNil))))))
theorem pure__law_frac (K : PySem.W.Frag) (vs : List V) (H : Hp) (Q : VK) (E : XK) (h : sp__law_frac K vs H Q E) : t__law_frac K { nx := fun _ H' => Q .non H', rt := Q } (L2.start N__law_frac vs) H := body_P h fun B ds hW hp => by
  obtain ⟨n, m, e, hm, hz⟩ := hp
  subst e
  unfold t__law_frac
  refine st_seq (st_asg (ev_callP (ea_cons (ev_var rfl (ea_cons (ev_var rfl (ea_nil ⟨⟨_, _, rfl⟩, fun d ⟨a, b, eab, ed⟩ => ?_⟩)))))))
  cases eab
  subst ed
  have hg : 0 < Nat.gcd n.natAbs m.natAbs := Nat.gcd_pos_of_pos_right _ (by omega)
  have gl : Nat.gcd n.natAbs m.natAbs ≤ m.natAbs := Nat.le_of_dvd (by omega) (Nat.gcd_dvd_right _ _)
  obtain ⟨p, hp⟩ : ((Nat.gcd n.natAbs m.natAbs : Nat) : Int) ∣ n := Int.ofNat_dvd_left.mpr (Nat.gcd_dvd_left _ _)
  obtain ⟨r, hr⟩ : ((Nat.gcd n.natAbs m.natAbs : Nat) : Int) ∣ m := Int.ofNat_dvd_left.mpr (Nat.gcd_dvd_right _ _)
  have hc : Nat.gcd p.natAbs r.natAbs = 1 := by
    have e1 : n.natAbs = Nat.gcd n.natAbs m.natAbs * p.natAbs := by
      conv => lhs; rw [hp, Int.natAbs_mul, Int.natAbs_natCast]
    have e2 : m.natAbs = Nat.gcd n.natAbs m.natAbs * r.natAbs := by
      conv => lhs; rw [hr, Int.natAbs_mul, Int.natAbs_natCast]
    have e3 : Nat.gcd (Nat.gcd n.natAbs m.natAbs * p.natAbs) (Nat.gcd n.natAbs m.natAbs * r.natAbs) = Nat.gcd n.natAbs m.natAbs * Nat.gcd p.natAbs r.natAbs := Nat.gcd_mul_left ..
    rw [← e1, ← e2] at e3
    exact Nat.eq_of_mul_eq_mul_left hg (by rw [Nat.mul_one]; exact e3.symm)
  generalize Nat.gcd n.natAbs m.natAbs = g at *
  have hg0 : (0 : Int) < (g : Int) := by omega
  have dn : n / (g : Int) = p := by
    rw [hp]
    exact Int.mul_ediv_cancel_left _ (by omega)
  have dm : m / (g : Int) = r := by
    rw [hr]
    exact Int.mul_ediv_cancel_left _ (by omega)
  have cd : CDivW 0 (g : Int) := by
    refine ⟨hg0, ?_⟩
    have := lg (x := (g : Int)) (m := 9000) (by rw [Int.natAbs_natCast]; omega)
    rw [Int.natAbs_natCast] at this ⊢
    exact (Nat.log2_lt (by omega)).mpr (by omega)
  have cdn : CDivW n (g : Int) := cd
  have cdm : CDivW m (g : Int) := cd
  have rn := ratInt_ne hm
  have rg := ratInt_ne (a := (g : Int)) (by omega)
  have ln : p.natAbs ≤ n.natAbs := by
    rw [hp, Int.natAbs_mul, Int.natAbs_natCast]
    exact Nat.le_mul_of_pos_left _ hg
  have lm : r.natAbs ≤ m.natAbs := by
    rw [hr, Int.natAbs_mul, Int.natAbs_natCast]
    exact Nat.le_mul_of_pos_left _ hg
  have vp : (n : Rat) = (g : Int) * (p : Rat) := by
    conv => lhs; rw [hp]
    exact Rat.intCast_mul _ _
  have vr : (m : Rat) = (g : Int) * (r : Rat) := by
    conv => lhs; rw [hr]
    exact Rat.intCast_mul _ _
  refine st_ret (ev_if ?_)
  walk_at "dd"
  refine ⟨fun hb => ?_, fun hb => ?_⟩
  · have m0 := of_decide_eq_true hb
    have r0 : 0 < r := by
      rcases Int.lt_trichotomy r 0 with z | z | z
      · have := Int.mul_neg_of_pos_of_neg hg0 z
        omega
      · rw [z] at hr
        omega
      · exact z
    refine ev_tup (ea_cons (ev_op (ev_var rfl (ev_var rfl (ro_fdW cdn ?_)))))
    refine ea_cons (ev_op (ev_var rfl (ev_var rfl (ro_fdW cdm (ea_nil ⟨by simp, n, m, rfl, (p, r), ?_, ⟨r0, hc⟩, ?_, ln, lm⟩)))))
    · rw [dn, dm]
      rfl
    · have := ratInt_ne (a := r) (by omega)
      unfold val
      rw [vp, vr]
      grind
  · have m0 := of_decide_eq_false hb
    have r0 : r < 0 := by
      rcases Int.lt_trichotomy r 0 with z | z | z
      · exact z
      · rw [z] at hr
        omega
      · have := Int.mul_pos hg0 z
        omega
    refine ev_tup (ea_cons (ev_op (ev_int (ev_op (ev_var rfl (ev_var rfl (ro_fdW cdn (rok_i0 ?_))))))))
    refine ea_cons (ev_op (ev_int (ev_op (ev_var rfl (ev_var rfl (ro_fdW cdm (rok_i0 (ea_nil ⟨by simp, n, m, rfl, (-p, -r), ?_, ⟨by show 0 < -r; omega, ?_⟩, ?_, ?_, ?_⟩))))))))
    · rw [dn, dm, Int.zero_sub, Int.zero_sub]
      rfl
    · show Nat.gcd (-p).natAbs (-r).natAbs = 1
      rw [Int.natAbs_neg, Int.natAbs_neg]
      exact hc
    · have := ratInt_ne (a := r) (by omega)
      unfold val
      show ((-p : Int) : Rat) / ((-r : Int) : Rat) = _
      rw [vp, vr, Rat.intCast_neg, Rat.intCast_neg]
      grind
    · show (-p).natAbs ≤ _
      rw [Int.natAbs_neg]
      exact ln
    · show (-r).natAbs ≤ _
      rw [Int.natAbs_neg]
      exact lm
theorem ok__law_frac (T : Tx K mg) : FnOk P w K mg base CX0 2 T.a__law_frac T.d__law_frac p__law_frac (sp__law_frac K) := by
  refine T.F__law_frac.ok sc__law_frac (fun vs H Q E h => len__law_frac K vs H Q E h) (fun cdv A outer s H vs Q E hr h => ?_)
  exact ⟨t__law_frac K, (pss_cons (ps_set (i := 2) sc__law_frac.nd rfl (Or.inl rfl) (pe_call (ok__law_measure T) (hr.mono (by decide)) rfl T.g__law_measure T.F__law_measure.kp (b__law_measure T) .nil pass0 (pa_cons (pv 0) (pa_cons (pv 1) pa_nil))))
  (pss_one (ps_ret (pe_ifExp (pt_cmpR op_gt (pv 1) pe_int (nomark _)) (pe_tup (pa_cons (pe_op op_fdA (pv 0) (pv 2)) (pa_cons (pe_op op_fdA (pv 1) (pv 2)) pa_nil))) (pe_tup (pa_cons (pe_op op_sub pe_int (pe_op op_fdA (pv 0) (pv 2))) (pa_cons (pe_op op_sub pe_int (pe_op op_fdA (pv 1) (pv 2))) pa_nil))))))), pure__law_frac K vs H Q E h⟩
/-! ### _law_sum -/

def pre__law_sum : List PyData → Prop := fun ds => ∃ x y : Fr, ds = [frD x, frD y] ∧ Sm x ∧ Sm y
def post__law_sum : List PyData → PyData → Prop := fun ds d => ∃ x y r : Fr, ds = [frD x, frD y] ∧ d = frD r ∧ FOk r ∧ val r = val x + val y ∧ r.1.natAbs ≤ (x.1 * y.2 + y.1 * x.2).natAbs ∧ r.2.natAbs ≤ (x.2 * y.2).natAbs
abbrev sp__law_sum (K : PySem.W.Frag) : Sp := SpP K pre__law_sum post__law_sum
theorem len__law_sum (K : PySem.W.Frag) (vs : List V) (H : Hp) (Q : VK) (E : XK) (h : sp__law_sum K vs H Q E) : vs.length = p__law_sum.length := len_P (n := 2) h fun ds hp => by
  obtain ⟨x, y, e, hx, hy⟩ := hp
  rw [e]; rfl
def t__law_sum (K : PySem.W.Frag) : TS :=
  (tRet (tCall (sp__law_frac K) [] E0 (tCons (tOp (rAddA K) (tOp (rMulA K) (tOp (rIx K) (tVar 0) (tC (.int 0))) (tOp (rIx K) (tVar 1) (tC (.int 1)))) (tOp (rMulA K) (tOp (rIx K) (tVar 1) (tC (.int 0))) (tOp (rIx K) (tVar 0) (tC (.int 1))))) (tCons (tOp (rMulA K) (tOp (rIx K) (tVar 0) (tC (.int 1))) (tOp (rIx K) (tVar 1) (tC (.int 1)))) tNil))))
theorem pure__law_sum (K : PySem.W.Frag) (vs : List V) (H : Hp) (Q : VK) (E : XK) (h : sp__law_sum K vs H Q E) : t__law_sum K { nx := fun _ H' => Q .non H', rt := Q } (L2.start N__law_sum vs) H := body_P h fun B ds hW hp => by
  obtain ⟨x, y, e, hx, hy⟩ := hp
  subst e
  unfold t__law_sum
  obtain ⟨x1, x2, x3⟩ := hx
  obtain ⟨y1, y2, y3⟩ := hy
  have nx := ratInt_ne (a := x.2) (by omega)
  have ny := ratInt_ne (a := y.2) (by omega)
  refine st_ret (ev_callP ?_)
  walk_at "dd"
  refine ro_mulW (mulW_of x2 y3 (by decide)) ?_
  walk_at "dd"
  refine ro_mulW (mulW_of y2 x3 (by decide)) ?_
  walk_at "dd"
  refine ro_mulW (mulW_of x3 y3 (by decide)) ?_
  have hm : x.2 * y.2 ≠ 0 := Int.mul_ne_zero (by omega) (by omega)
  refine ea_nil ⟨⟨_, _, rfl, hm, pow_up (natAbs_mul_lt x3 y3) (by decide)⟩, fun d ⟨n', m', en, r, ed, f, v, z1, z2⟩ => ?_⟩
  simp only [List.cons.injEq, PyData.int.injEq, and_true] at en
  obtain ⟨rfl, rfl⟩ := en
  refine ⟨x, y, r, rfl, ed, f, ?_, z1, z2⟩
  rw [v]
  unfold val
  rw [Rat.intCast_add, Rat.intCast_mul, Rat.intCast_mul, Rat.intCast_mul]
  grind
theorem ok__law_sum (T : Tx K mg) : FnOk P w K mg base CX0 3 T.a__law_sum T.d__law_sum p__law_sum (sp__law_sum K) := by
  refine T.F__law_sum.ok sc__law_sum (fun vs H Q E h => len__law_sum K vs H Q E h) (fun cdv A outer s H vs Q E hr h => ?_)
  exact ⟨t__law_sum K, (pss_one (ps_ret (pe_call (ok__law_frac T) (hr.mono (by decide)) rfl T.g__law_frac T.F__law_frac.kp (b__law_frac T) .nil pass0 (pa_cons (pe_op op_addA (pe_op op_mulA (pe_ix ix_seq (pv 0) pe_int (fun _ _ => rfl)) (pe_ix ix_seq (pv 1) pe_int (fun _ _ => rfl))) (pe_op op_mulA (pe_ix ix_seq (pv 1) pe_int (fun _ _ => rfl)) (pe_ix ix_seq (pv 0) pe_int (fun _ _ => rfl)))) (pa_cons (pe_op op_mulA (pe_ix ix_seq (pv 0) pe_int (fun _ _ => rfl)) (pe_ix ix_seq (pv 1) pe_int (fun _ _ => rfl))) pa_nil))))), pure__law_sum K vs H Q E h⟩
/-! ### _law_gap -/

def pre__law_gap : List PyData → Prop := fun ds => ∃ x y : Fr, ds = [frD x, frD y] ∧ Sm x ∧ Sm y
def post__law_gap : List PyData → PyData → Prop := fun ds d => ∃ x y r : Fr, ds = [frD x, frD y] ∧ d = frD r ∧ FOk r ∧ val r = val x - val y ∧ r.1.natAbs ≤ (x.1 * y.2 - y.1 * x.2).natAbs ∧ r.2.natAbs ≤ (x.2 * y.2).natAbs
abbrev sp__law_gap (K : PySem.W.Frag) : Sp := SpP K pre__law_gap post__law_gap
theorem len__law_gap (K : PySem.W.Frag) (vs : List V) (H : Hp) (Q : VK) (E : XK) (h : sp__law_gap K vs H Q E) : vs.length = p__law_gap.length := len_P (n := 2) h fun ds hp => by
  obtain ⟨x, y, e, hx, hy⟩ := hp
  rw [e]; rfl
def t__law_gap (K : PySem.W.Frag) : TS :=
  (tRet (tCall (sp__law_frac K) [] E0 (tCons (tOp (rI0 fun i j => .int (i - j)) (tOp (rMulA K) (tOp (rIx K) (tVar 0) (tC (.int 0))) (tOp (rIx K) (tVar 1) (tC (.int 1)))) (tOp (rMulA K) (tOp (rIx K) (tVar 1) (tC (.int 0))) (tOp (rIx K) (tVar 0) (tC (.int 1))))) (tCons (tOp (rMulA K) (tOp (rIx K) (tVar 0) (tC (.int 1))) (tOp (rIx K) (tVar 1) (tC (.int 1)))) tNil))))
theorem pure__law_gap (K : PySem.W.Frag) (vs : List V) (H : Hp) (Q : VK) (E : XK) (h : sp__law_gap K vs H Q E) : t__law_gap K { nx := fun _ H' => Q .non H', rt := Q } (L2.start N__law_gap vs) H := body_P h fun B ds hW hp => by
  obtain ⟨x, y, e, hx, hy⟩ := hp
  subst e
  unfold t__law_gap
  obtain ⟨x1, x2, x3⟩ := hx
  obtain ⟨y1, y2, y3⟩ := hy
  have nx := ratInt_ne (a := x.2) (by omega)
  have ny := ratInt_ne (a := y.2) (by omega)
  refine st_ret (ev_callP ?_)
  walk_at "dd"
  refine ro_mulW (mulW_of x2 y3 (by decide)) ?_
  walk_at "dd"
  refine ro_mulW (mulW_of y2 x3 (by decide)) ?_
  walk_at "dd"
  refine ro_mulW (mulW_of x3 y3 (by decide)) ?_
  have hm : x.2 * y.2 ≠ 0 := Int.mul_ne_zero (by omega) (by omega)
  refine ea_nil ⟨⟨_, _, rfl, hm, pow_up (natAbs_mul_lt x3 y3) (by decide)⟩, fun d ⟨n', m', en, r, ed, f, v, z1, z2⟩ => ?_⟩
  simp only [List.cons.injEq, PyData.int.injEq, and_true] at en
  obtain ⟨rfl, rfl⟩ := en
  refine ⟨x, y, r, rfl, ed, f, ?_, z1, z2⟩
  rw [v]
  unfold val
  rw [Rat.intCast_sub, Rat.intCast_mul, Rat.intCast_mul, Rat.intCast_mul]
  grind
theorem ok__law_gap (T : Tx K mg) : FnOk P w K mg base CX0 3 T.a__law_gap T.d__law_gap p__law_gap (sp__law_gap K) := by
  refine T.F__law_gap.ok sc__law_gap (fun vs H Q E h => len__law_gap K vs H Q E h) (fun cdv A outer s H vs Q E hr h => ?_)
  exact ⟨t__law_gap K, (pss_one (ps_ret (pe_call (ok__law_frac T) (hr.mono (by decide)) rfl T.g__law_frac T.F__law_frac.kp (b__law_frac T) .nil pass0 (pa_cons (pe_op op_sub (pe_op op_mulA (pe_ix ix_seq (pv 0) pe_int (fun _ _ => rfl)) (pe_ix ix_seq (pv 1) pe_int (fun _ _ => rfl))) (pe_op op_mulA (pe_ix ix_seq (pv 1) pe_int (fun _ _ => rfl)) (pe_ix ix_seq (pv 0) pe_int (fun _ _ => rfl)))) (pa_cons (pe_op op_mulA (pe_ix ix_seq (pv 0) pe_int (fun _ _ => rfl)) (pe_ix ix_seq (pv 1) pe_int (fun _ _ => rfl))) pa_nil))))), pure__law_gap K vs H Q E h⟩
/-! ### _law_prod -/

def pre__law_prod : List PyData → Prop := fun ds => ∃ x y : Fr, ds = [frD x, frD y] ∧ Sm x ∧ Sm y
def post__law_prod : List PyData → PyData → Prop := fun ds d => ∃ x y r : Fr, ds = [frD x, frD y] ∧ d = frD r ∧ FOk r ∧ val r = val x * val y ∧ r.1.natAbs ≤ (x.1 * y.1).natAbs ∧ r.2.natAbs ≤ (x.2 * y.2).natAbs
abbrev sp__law_prod (K : PySem.W.Frag) : Sp := SpP K pre__law_prod post__law_prod
theorem len__law_prod (K : PySem.W.Frag) (vs : List V) (H : Hp) (Q : VK) (E : XK) (h : sp__law_prod K vs H Q E) : vs.length = p__law_prod.length := len_P (n := 2) h fun ds hp => by
  obtain ⟨x, y, e, hx, hy⟩ := hp
  rw [e]; rfl
def t__law_prod (K : PySem.W.Frag) : TS :=
  (tRet (tCall (sp__law_frac K) [] E0 (tCons (tOp (rMulA K) (tOp (rIx K) (tVar 0) (tC (.int 0))) (tOp (rIx K) (tVar 1) (tC (.int 0)))) (tCons (tOp (rMulA K) (tOp (rIx K) (tVar 0) (tC (.int 1))) (tOp (rIx K) (tVar 1) (tC (.int 1)))) tNil))))
theorem pure__law_prod (K : PySem.W.Frag) (vs : List V) (H : Hp) (Q : VK) (E : XK) (h : sp__law_prod K vs H Q E) : t__law_prod K { nx := fun _ H' => Q .non H', rt := Q } (L2.start N__law_prod vs) H := body_P h fun B ds hW hp => by
  obtain ⟨x, y, e, hx, hy⟩ := hp
  subst e
  unfold t__law_prod
  obtain ⟨x1, x2, x3⟩ := hx
  obtain ⟨y1, y2, y3⟩ := hy
  have nx := ratInt_ne (a := x.2) (by omega)
  have ny := ratInt_ne (a := y.2) (by omega)
  refine st_ret (ev_callP ?_)
  walk_at "dd"
  refine ro_mulW (mulW_of x2 y2 (by decide)) ?_
  walk_at "dd"
  refine ro_mulW (mulW_of x3 y3 (by decide)) ?_
  have hm : x.2 * y.2 ≠ 0 := Int.mul_ne_zero (by omega) (by omega)
  refine ea_nil ⟨⟨_, _, rfl, hm, pow_up (natAbs_mul_lt x3 y3) (by decide)⟩, fun d ⟨n', m', en, r, ed, f, v, z1, z2⟩ => ?_⟩
  simp only [List.cons.injEq, PyData.int.injEq, and_true] at en
  obtain ⟨rfl, rfl⟩ := en
  refine ⟨x, y, r, rfl, ed, f, ?_, z1, z2⟩
  rw [v]
  unfold val
  rw [Rat.intCast_mul, Rat.intCast_mul]
  grind
theorem ok__law_prod (T : Tx K mg) : FnOk P w K mg base CX0 3 T.a__law_prod T.d__law_prod p__law_prod (sp__law_prod K) := by
  refine T.F__law_prod.ok sc__law_prod (fun vs H Q E h => len__law_prod K vs H Q E h) (fun cdv A outer s H vs Q E hr h => ?_)
  exact ⟨t__law_prod K, (pss_one (ps_ret (pe_call (ok__law_frac T) (hr.mono (by decide)) rfl T.g__law_frac T.F__law_frac.kp (b__law_frac T) .nil pass0 (pa_cons (pe_op op_mulA (pe_ix ix_seq (pv 0) pe_int (fun _ _ => rfl)) (pe_ix ix_seq (pv 1) pe_int (fun _ _ => rfl))) (pa_cons (pe_op op_mulA (pe_ix ix_seq (pv 0) pe_int (fun _ _ => rfl)) (pe_ix ix_seq (pv 1) pe_int (fun _ _ => rfl))) pa_nil))))), pure__law_prod K vs H Q E h⟩
/-! ### _law_side -/

def pre__law_side : List PyData → Prop := fun ds => ∃ n : Int, ds = [.int n]
def post__law_side : List PyData → PyData → Prop := fun ds d => ∃ n : Int, ds = [.int n] ∧ d = .int (sgn n)
abbrev sp__law_side (K : PySem.W.Frag) : Sp := SpP K pre__law_side post__law_side
theorem len__law_side (K : PySem.W.Frag) (vs : List V) (H : Hp) (Q : VK) (E : XK) (h : sp__law_side K vs H Q E) : vs.length = p__law_side.length := len_P (n := 1) h fun ds hp => by
  obtain ⟨n, e⟩ := hp
  rw [e]; rfl
def t__law_side (K : PySem.W.Frag) : TS :=
  (tRet (tOp (rI0 fun i j => .int (i - j)) (tCB rIntQ (tCons (tOp (rI0 fun i j => .bl (decide (j < i))) (tVar 0) (tC (.int 0))) tNil)) (tCB rIntQ (tCons (tOp (rI0 fun i j => .bl (decide (i < j))) (tVar 0) (tC (.int 0))) tNil))))
theorem pure__law_side (K : PySem.W.Frag) (vs : List V) (H : Hp) (Q : VK) (E : XK) (h : sp__law_side K vs H Q E) : t__law_side K { nx := fun _ H' => Q .non H', rt := Q } (L2.start N__law_side vs) H := body_P h fun B ds hW hp => by
  obtain ⟨n, e⟩ := hp
  subst e
  unfold t__law_side
  refine st_ret (ev_op (ev_cb (ea_cons (ev_op (ev_var rfl (ev_int (rok_b0 (ea_nil (co_intB ?_)))))))))
  refine ev_cb (ea_cons (ev_op (ev_var rfl (ev_int (rok_b0 (ea_nil (co_intB (rok_i0 ⟨n, rfl, ?_⟩))))))))
  unfold sgn
  by_cases h : 0 < n
  · rw [decide_eq_true h, decide_eq_false (show ¬ n < 0 by omega), if_pos h]
    rfl
  · by_cases h2 : n < 0
    · rw [decide_eq_false h, decide_eq_true h2, if_neg h, if_pos h2]
      rfl
    · rw [decide_eq_false h, decide_eq_false h2, if_neg h, if_neg h2]
      rfl
theorem ok__law_side (T : Tx K mg) : FnOk P w K mg base CX0 1 T.a__law_side T.d__law_side p__law_side (sp__law_side K) := by
  refine T.F__law_side.ok sc__law_side (fun vs H Q E h => len__law_side K vs H Q E h) (fun cdv A outer s H vs Q E hr h => ?_)
  exact ⟨t__law_side K, (pss_one (ps_ret (pe_op op_sub (pe_callTy call_int1 (by rfl) T.n_int (by decide +kernel) (pa_cons (pe_cmpR op_gt (pv 0) pe_int (nomark _)) pa_nil)) (pe_callTy call_int1 (by rfl) T.n_int (by decide +kernel) (pa_cons (pe_cmpR op_lt (pv 0) pe_int (nomark _)) pa_nil))))), pure__law_side K vs H Q E h⟩
/-! ### _law_beside -/

def pre__law_beside : List PyData → Prop := fun ds => ∃ x y : Fr, ds = [frD x, frD y] ∧ Sm x ∧ Sm y
def post__law_beside : List PyData → PyData → Prop := fun ds d => ∃ x y : Fr, ds = [frD x, frD y] ∧ d = .int (rsgn (val x - val y))
abbrev sp__law_beside (K : PySem.W.Frag) : Sp := SpP K pre__law_beside post__law_beside
theorem len__law_beside (K : PySem.W.Frag) (vs : List V) (H : Hp) (Q : VK) (E : XK) (h : sp__law_beside K vs H Q E) : vs.length = p__law_beside.length := len_P (n := 2) h fun ds hp => by
  obtain ⟨x, y, e, hx, hy⟩ := hp
  rw [e]; rfl
def t__law_beside (K : PySem.W.Frag) : TS :=
  (tRet (tCall (sp__law_side K) [] E0 (tCons (tOp (rI0 fun i j => .int (i - j)) (tOp (rMulA K) (tOp (rIx K) (tVar 0) (tC (.int 0))) (tOp (rIx K) (tVar 1) (tC (.int 1)))) (tOp (rMulA K) (tOp (rIx K) (tVar 1) (tC (.int 0))) (tOp (rIx K) (tVar 0) (tC (.int 1))))) tNil)))
theorem pure__law_beside (K : PySem.W.Frag) (vs : List V) (H : Hp) (Q : VK) (E : XK) (h : sp__law_beside K vs H Q E) : t__law_beside K { nx := fun _ H' => Q .non H', rt := Q } (L2.start N__law_beside vs) H := body_P h fun B ds hW hp => by
  obtain ⟨x, y, e, hx, hy⟩ := hp
  subst e
  unfold t__law_beside
  obtain ⟨x1, x2, x3⟩ := hx
  obtain ⟨y1, y2, y3⟩ := hy
  have nx := ratInt_ne (a := x.2) (by omega)
  have ny := ratInt_ne (a := y.2) (by omega)
  refine st_ret (ev_callP ?_)
  walk_at "dd"
  refine ro_mulW (mulW_of x2 y3 (by decide)) ?_
  walk_at "dd"
  refine ro_mulW (mulW_of y2 x3 (by decide)) ?_
  walk_at "dd"
  refine ⟨⟨_, rfl⟩, fun d ⟨n, en, ed⟩ => ?_⟩
  simp only [List.cons.injEq, PyData.int.injEq, and_true] at en
  subst en
  refine ⟨x, y, rfl, ?_⟩
  rw [ed, ← side_sgn x1 y1]
theorem ok__law_beside (T : Tx K mg) : FnOk P w K mg base CX0 2 T.a__law_beside T.d__law_beside p__law_beside (sp__law_beside K) := by
  refine T.F__law_beside.ok sc__law_beside (fun vs H Q E h => len__law_beside K vs H Q E h) (fun cdv A outer s H vs Q E hr h => ?_)
  exact ⟨t__law_beside K, (pss_one (ps_ret (pe_call (ok__law_side T) (hr.mono (by decide)) rfl T.g__law_side T.F__law_side.kp (b__law_side T) .nil pass0 (pa_cons (pe_op op_sub (pe_op op_mulA (pe_ix ix_seq (pv 0) pe_int (fun _ _ => rfl)) (pe_ix ix_seq (pv 1) pe_int (fun _ _ => rfl))) (pe_op op_mulA (pe_ix ix_seq (pv 1) pe_int (fun _ _ => rfl)) (pe_ix ix_seq (pv 0) pe_int (fun _ _ => rfl)))) pa_nil)))), pure__law_beside K vs H Q E h⟩
/-! ### _law_is_frac -/
theorem flt_in {α : Type} {fs : List α} {i : Nat} {p : α} {f : α → Bool} (hp : fs[i]? = some p) (h : f p = true) : (fs.take (i + 1)).filter f = (fs.take i).filter f ++ [p] := by
  rw [List.take_add_one, hp, List.filter_append]
  show _ ++ List.filter f [p] = _
  rw [List.filter_cons_of_pos h]
  rfl
theorem flt_out {α : Type} {fs : List α} {i : Nat} {p : α} {f : α → Bool} (hp : fs[i]? = some p) (h : f p = false) : (fs.take (i + 1)).filter f = (fs.take i).filter f := by
  rw [List.take_add_one, hp, List.filter_append]
  show _ ++ List.filter f [p] = _
  rw [List.filter_cons_of_neg (by rw [h]; decide)]
  exact List.append_nil _

def pre__law_is_frac : List PyData → Prop := fun ds => ∃ v n, ds = [v] ∧ Ok n v ∧ n ≤ 50
def post__law_is_frac : List PyData → PyData → Prop := fun ds d => ∃ v, ds = [v] ∧ d = .bool (isFracD v)
abbrev sp__law_is_frac (K : PySem.W.Frag) : Sp := SpP K pre__law_is_frac post__law_is_frac
theorem len__law_is_frac (K : PySem.W.Frag) (vs : List V) (H : Hp) (Q : VK) (E : XK) (h : sp__law_is_frac K vs H Q E) : vs.length = p__law_is_frac.length := len_P (n := 1) h fun ds hp => by
  obtain ⟨v, n, e, ho, hn⟩ := hp
  rw [e]; rfl
def t__law_is_frac (K : PySem.W.Frag) : TS :=
  (tSeq (tIfS (tOr (tNot (tB (tCB (rIsi K) (tCons (tVar 0) (tCons (tC (.ty "tuple")) tNil))))) (tTest (tOp rNe (tCB (rLenQ K) (tCons (tVar 0) tNil)) (tC (.int 2))))) (tRet (tC (.bl false))) tNext)
  (tSeq (tIfS (tTest (tOp (rNeD K) (tLc (iTup K (tVar 0)) (gName 1) (tOr (tNot (tB (tCB (rIsi K) (tCons (tVar 1) (tCons (tC (.ty "int")) tNil))))) (tB (tCB (rIsi K) (tCons (tVar 1) (tCons (tC (.ty "bool")) tNil))))) (tVar 1) [1]) (tLst tNil))) (tRet (tC (.bl false))) tNext)
  (tRet (tAndV (tOp (rI0 fun i j => .bl (decide (j < i))) (tOp (rIx K) (tVar 0) (tC (.int 1))) (tC (.int 0))) (tOp rEq (tCall (sp__law_measure K) [] E0 (tCons (tOp (rIx K) (tVar 0) (tC (.int 0))) (tCons (tOp (rIx K) (tVar 0) (tC (.int 1))) tNil))) (tC (.int 1)))))))
theorem pure__law_is_frac (K : PySem.W.Frag) (vs : List V) (H : Hp) (Q : VK) (E : XK) (h : sp__law_is_frac K vs H Q E) : t__law_is_frac K { nx := fun _ H' => Q .non H', rt := Q } (L2.start N__law_is_frac vs) H := body_P h fun B ds hW hp => by
  obtain ⟨v, n, e, ho, hn⟩ := hp
  subst e
  unfold t__law_is_frac

  refine st_seq (st_if (et_or (et_not (et_B (ev_isiTup (ev_var rfl ⟨_, rfl, fun hb => ?_, fun hb => ⟨fun _ => ?_, fun z => nomatch z⟩⟩))))))
  · obtain ⟨xs, rfl⟩ := isTupT_true (d := v) (by simpa using hb)
    refine et_test (ev_op (ev_cb (ea_cons (ev_var rfl (ea_nil (co_lenT (ev_int (rok_neI ⟨_, rfl, fun hb => ?_, fun hb => ?_⟩))))))))
    · have hb : ¬ ((xs.length : Int) = 2) := by simpa using hb
      exact st_ret (ev_bl ⟨_, rfl, by rw [isFrac_len (by omega)]⟩)
    · have hb : ((xs.length : Int) = 2) := by simpa using hb
      obtain ⟨a, b, rfl⟩ : ∃ a b, xs = [a, b] := by
        match xs, hb with
        | [a, b], _ => exact ⟨a, b, rfl⟩
        | [], h => cases h
        | [_], h => cases h
        | _ :: _ :: _ :: _, h => simp at h; omega
      have oi : ∀ x ∈ [a, b], Ok n x := fun x hx => by
        cases n with
        | zero => exact ho.elim
        | succ n => exact (ho.items.2 x hx).succ
      refine st_next (st_seq (st_if (et_test (ev_op (ev_new (en_lcT (wipe1 1) (ev_var rfl ⟨[a, b], rfl, (show 2 ≤ 100000 by decide), fun i acc => acc = ([a, b].take i).filter (fun d => !isWholeD d), ⟨rfl, fun i D d' acc hi hJ hin => ?_⟩, fun acc hJ => ?_⟩)))))))
      · have keep : isWholeD d' = false → acc ++ [d'] = ([a, b].take (i + 1)).filter (fun d => !isWholeD d) := fun q => by
          rw [flt_in hi (f := fun d => !isWholeD d) (by rw [q]; rfl), show acc = _ from hJ]
        have drop : isWholeD d' = true → acc = ([a, b].take (i + 1)).filter (fun d => !isWholeD d) := fun q => by
          rw [flt_out hi (f := fun d => !isWholeD d) (by rw [q]; rfl)]
          exact hJ
        refine et_or (et_not (et_B (ev_isiInt (ev_var rfl ⟨_, rfl, fun hb => ?_, fun hb => ⟨fun _ => ?_, fun z => nomatch z⟩⟩))))
        · refine et_B (ev_isiBool (ev_var rfl ⟨_, rfl, fun hb2 => ?_, fun hb2 => ?_⟩))
          · exact ev_var rfl (keep (by cases d' <;> simp_all [isIntT, isBoolT, isWholeD]))
          · exact drop (by cases d' <;> simp_all [isIntT, isBoolT, isWholeD])
        · exact ev_var rfl (keep (by cases d' <;> simp_all [isIntT, isBoolT, isWholeD]))
      · have hJ : acc = [a, b].filter (fun d => !isWholeD d) := hJ
        have oa : ∀ x ∈ acc, Ok n x := fun x hx => by
          rw [hJ] at hx
          exact oi x (List.mem_filter.mp hx).1
        obtain ⟨s1, s2⟩ := ok_list oa (by omega)
        refine ev_lst (ea_nil ⟨by simp, rok_neD s2 nil_shaped.2 s1 nil_shaped.1 ⟨_, rfl, fun hb => ?_, fun hb => ?_⟩⟩)
        · refine st_ret (ev_bl ⟨_, rfl, ?_⟩)
          rw [eqv_nil] at hb
          have h9 : acc.isEmpty = false := by simpa using hb
          cases q : isFracD (.tuple [a, b]) with
          | false => rfl
          | true =>
            obtain ⟨p1, p2, e, _⟩ := isFracD_true q
            cases e
            rw [hJ] at h9
            cases h9
        · rw [eqv_nil] at hb
          have hb : acc = [] := by simpa using hb
          rw [hJ] at hb
          have wa : isWholeD a = true := by simpa using List.filter_eq_nil_iff.mp hb a (List.mem_cons_self ..)
          have wb : isWholeD b = true := by simpa using List.filter_eq_nil_iff.mp hb b (List.mem_cons_of_mem _ (List.mem_cons_self ..))
          obtain ⟨p, rfl⟩ := isWholeD_true wa
          obtain ⟨q, rfl⟩ := isWholeD_true wb
          refine st_next (st_ret (ev_andV (ev_op (ev_op (ev_var rfl (ev_int (rok_ixsT (d := .int q) rfl (ev_int (rok_b0 ⟨_, rfl, fun hb => ?_, fun hb => ⟨_, rfl, ?_⟩⟩)))))))))
          · refine ev_op (ev_callP (ea_cons (ev_op (ev_var rfl (ev_int (rok_ixsT (d := .int p) rfl (ea_cons (ev_op (ev_var rfl (ev_int (rok_ixsT (d := .int q) rfl (ea_nil ⟨⟨p, q, rfl⟩, fun d ⟨a', b', e, ed⟩ => ?_⟩))))))))))))
            simp only [List.cons.injEq, PyData.int.injEq, and_true] at e
            obtain ⟨rfl, rfl⟩ := e
            subst ed
            refine ev_int (rok_eqI ⟨_, rfl, ?_⟩)
            show PyData.bool _ = .bool (decide (0 < q) && decide (((Nat.gcd p.natAbs q.natAbs : Nat) : Int) = 1))
            rw [hb, Bool.true_and]
          · show PyData.bool false = .bool (decide (0 < q) && _)
            rw [hb, Bool.false_and]
  · exact st_ret (ev_bl ⟨v, rfl, by cases v <;> first | rfl | cases hb⟩)
theorem ok__law_is_frac (T : Tx K mg) : FnOk P w K mg base CX0 2 T.a__law_is_frac T.d__law_is_frac p__law_is_frac (sp__law_is_frac K) := by
  refine T.F__law_is_frac.ok sc__law_is_frac (fun vs H Q E h => len__law_is_frac K vs H Q E h) (fun cdv A outer s H vs Q E hr h => ?_)
  have hu := hr.units
  exact ⟨t__law_is_frac K, (pss_cons (ps_if (PW.pt (pw_or (pt_not (pt_val (pe_callB call_isi (by rfl) T.n_isinstance (by decide +kernel) (pa_cons (pv 0) (pa_cons (pe_bltn (v := .ty "tuple") (by rfl) T.n_tuple (by decide +kernel) rfl) pa_nil))))) (pw_or1 (pt_cmpR op_ne (pe_callB call_len_seq (by rfl) T.n_len (by decide +kernel) (pa_cons (pv 0) pa_nil)) pe_int (nomark _))))) (pss_one (ps_ret pe_bl)) pss_nil)
  (pss_cons (ps_if (pt_cmpR (op_neD hu) (pe_lc (own := [("_law_each", 1)]) (by rfl) sc__law_is_frac.nd (pi_tup (pv 0)) (blkOk_by (own := [("_law_each", 1)]) (N := N__law_is_frac) (sc := defScope s__law_is_frac) (by decide +kernel)) (fun _ _ _ _ _ => pg_name (i := 1) sc__law_is_frac.nd rfl (Or.inl rfl)) (fun _ _ _ _ _ => (pts_one (PW.pt (pw_or (pt_not (pt_val (pe_callB call_isi (by rfl) T.n_isinstance (by decide +kernel) (pa_cons (pv 1) (pa_cons (pe_bltn (v := .ty "int") (by rfl) T.n_int (by decide +kernel) rfl) pa_nil))))) (pw_or1 (pt_val (pe_callB call_isi (by rfl) T.n_isinstance (by decide +kernel) (pa_cons (pv 1) (pa_cons (pe_bltn (v := .ty "bool") (by rfl) T.n_bool (by decide +kernel) rfl) pa_nil))))))))) (fun _ _ _ _ _ => (pv 1))) (pe_lst pa_nil) (nomark _)) (pss_one (ps_ret pe_bl)) pss_nil)
  (pss_one (ps_ret (pe_and (pe_cmpR op_gt (pe_ix ix_seq (pv 0) pe_int (fun _ _ => rfl)) pe_int (nomark _)) (pe_one (pe_cmpR op_eq (pe_call (ok__law_measure T) (hr.mono (by decide)) rfl T.g__law_measure T.F__law_measure.kp (b__law_measure T) .nil pass0 (pa_cons (pe_ix ix_seq (pv 0) pe_int (fun _ _ => rfl)) (pa_cons (pe_ix ix_seq (pv 0) pe_int (fun _ _ => rfl)) pa_nil))) pe_int (nomark _)))))))), pure__law_is_frac K vs H Q E h⟩
/-! ### _law_amount -/

def pre__law_amount : List PyData → Prop := fun ds => True ∧ ds = []
def post__law_amount : List PyData → PyData → Prop := fun ds d => ∃ x : Fr, d = frD x ∧ Am x
abbrev sp__law_amount (K : PySem.W.Frag) : Sp := SpW K pre__law_amount post__law_amount
theorem len__law_amount (K : PySem.W.Frag) (vs : List V) (H : Hp) (Q : VK) (E : XK) (h : sp__law_amount K vs H Q E) : vs.length = p__law_amount.length := len_W (n := 0) h fun ds hp => by
  obtain ⟨_, e⟩ := hp
  rw [e]; rfl
def t__law_amount (K : PySem.W.Frag) : TS :=
  (tSeq (tAsg (tCall (sp__law_any K) [] E0 (tCons (tVar 0) (tCons (tLst (tCons (tC (.int 2)) (tCons (tC (.int 2)) (tCons (tC (.int 3)) (tCons (tC (.int 4)) (tCons (tC (.int 9)) tNil)))))) tNil))) (gName 1))
  (tRet (tCall (sp__law_frac K) [] E0 (tCons (tOp (rAddA K) (tC (.int 1)) (tCall (sp__law_wind K) [] E0 (tCons (tVar 0) (tCons (tVar 1) tNil)))) (tCons (tOp (rAddA K) (tC (.int 1)) (tCall (sp__law_wind K) [] E0 (tCons (tVar 0) (tCons (tCall (sp__law_any K) [] E0 (tCons (tVar 0) (tCons (tLst (tCons (tC (.int 1)) (tCons (tC (.int 1)) (tCons (tC (.int 2)) (tCons (tC (.int 3)) (tCons (tVar 1) tNil)))))) tNil))) tNil)))) tNil)))))
theorem pure__law_amount (K : PySem.W.Frag) (vs : List V) (H : Hp) (Q : VK) (E : XK) (h : sp__law_amount K vs H Q E) : t__law_amount K { nx := fun _ H' => Q .non H', rt := Q } (L2.start N__law_amount vs) H := body_W h (by decide) fun B w ds hp => by
  obtain ⟨_, e⟩ := hp
  subst e
  unfold t__law_amount
  have pick : ∀ (ks : List Int) (d : PyData), d ∈ ks.map PyData.int → (∀ k ∈ ks, 1 ≤ k ∧ k ≤ 9) → ∃ k : Int, d = .int k ∧ 1 ≤ k ∧ k ≤ 9 := fun ks d hd hk => by
    obtain ⟨k, h1, rfl⟩ := List.mem_map.mp hd
    exact ⟨k, rfl, hk k h1⟩
  refine st_seq (st_asg (ev_callW rfl ?_))
  walk_at "dd"
  refine ⟨⟨_, rfl, by simp, by simp⟩, fun d ⟨xs, ex, hd⟩ => ?_⟩
  cases ex
  obtain ⟨wide, rfl, w0, w1⟩ := pick [2, 2, 3, 4, 9] d hd (by decide)
  refine st_ret (ev_callP (ea_cons (ev_op (ev_int (ev_callW rfl (ea_cons (ev_var rfl (ea_nil ⟨⟨_, rfl, by omega, by omega⟩, fun d ⟨m, a, em, ed, a0, a1⟩ => ?_⟩))))))))
  cases em
  subst ed
  refine ro_add (ea_cons (ev_op (ev_int (ev_callW rfl (ea_cons (ev_callW rfl (ea_cons (ev_lst ?_))))))))
  walk_at "dd"
  refine ⟨⟨_, rfl, by simp, by simp⟩, fun d ⟨xs, ex, hd⟩ => ?_⟩
  cases ex
  obtain ⟨k, rfl, k0, k1⟩ := pick [1, 1, 2, 3, wide] d hd (by
    intro k hk
    simp only [List.mem_cons, List.not_mem_nil, or_false] at hk
    omega)
  refine ea_nil ⟨⟨_, rfl, by omega, by omega⟩, fun d ⟨m, b, em, ed, b0, b1⟩ => ?_⟩
  cases em
  subst ed
  refine ro_add (ea_nil ⟨⟨_, _, rfl, by omega, pow_up (m := 6) (by omega) (by decide)⟩, fun d ⟨n', m', en, x, ed, f, v, l1, l2⟩ => ?_⟩)
  simp only [List.cons.injEq, PyData.int.injEq, and_true] at en
  obtain ⟨rfl, rfl⟩ := en
  have q0 : (0 : Rat) < val x := by
    rw [v, Rat.div_def]
    exact Rat.mul_pos (ratInt_pos (by omega)) (Rat.inv_pos.mpr (ratInt_pos (by omega)))
  have x0 := (val_pos f.1).1.mp q0
  have x2 := f.1
  exact ⟨x, ed, f, x0, by omega, by omega⟩
theorem ok__law_amount (T : Tx K mg) : FnOk P w K mg base CX0 3 T.a__law_amount T.d__law_amount p__law_amount (sp__law_amount K) := by
  refine T.F__law_amount.ok sc__law_amount (fun vs H Q E h => len__law_amount K vs H Q E h) (fun cdv A outer s H vs Q E hr h => ?_)
  exact ⟨t__law_amount K, (pss_cons (ps_set (i := 1) sc__law_amount.nd rfl (Or.inl rfl) (pe_call (ok__law_any T) (hr.mono (by decide)) rfl T.g__law_any T.F__law_any.kp (b__law_any T) .nil pass0 (pa_cons (pv 0) (pa_cons (pe_lst (pa_cons pe_int (pa_cons pe_int (pa_cons pe_int (pa_cons pe_int (pa_cons pe_int pa_nil)))))) pa_nil))))
  (pss_one (ps_ret (pe_call (ok__law_frac T) (hr.mono (by decide)) rfl T.g__law_frac T.F__law_frac.kp (b__law_frac T) .nil pass0 (pa_cons (pe_op op_addA pe_int (pe_call (ok__law_wind T) (hr.mono (by decide)) rfl T.g__law_wind T.F__law_wind.kp (b__law_wind T) .nil pass0 (pa_cons (pv 0) (pa_cons (pv 1) pa_nil)))) (pa_cons (pe_op op_addA pe_int (pe_call (ok__law_wind T) (hr.mono (by decide)) rfl T.g__law_wind T.F__law_wind.kp (b__law_wind T) .nil pass0 (pa_cons (pv 0) (pa_cons (pe_call (ok__law_any T) (hr.mono (by decide)) rfl T.g__law_any T.F__law_any.kp (b__law_any T) .nil pass0 (pa_cons (pv 0) (pa_cons (pe_lst (pa_cons pe_int (pa_cons pe_int (pa_cons pe_int (pa_cons pe_int (pa_cons (pv 1) pa_nil)))))) pa_nil))) pa_nil)))) pa_nil)))))), pure__law_amount K vs H Q E h⟩
/-! ### _law_end -/

def pre__law_end : List PyData → Prop := fun ds => True ∧ ds = []
def post__law_end : List PyData → PyData → Prop := fun ds d => ∃ x : Fr, d = frD x ∧ Am0 x
abbrev sp__law_end (K : PySem.W.Frag) : Sp := SpW K pre__law_end post__law_end
theorem len__law_end (K : PySem.W.Frag) (vs : List V) (H : Hp) (Q : VK) (E : XK) (h : sp__law_end K vs H Q E) : vs.length = p__law_end.length := len_W (n := 0) h fun ds hp => by
  obtain ⟨_, e⟩ := hp
  rw [e]; rfl
def t__law_end (K : PySem.W.Frag) : TS :=
  (tRet (tIf (tTest (tOp rEq (tCall (sp__law_wind K) [] E0 (tCons (tVar 0) (tCons (tC (.int 2)) tNil))) (tC (.int 0)))) (tTup (tCons (tC (.int 0)) (tCons (tC (.int 1)) tNil))) (tCall (sp__law_amount K) [] E0 (tCons (tVar 0) tNil))))
theorem pure__law_end (K : PySem.W.Frag) (vs : List V) (H : Hp) (Q : VK) (E : XK) (h : sp__law_end K vs H Q E) : t__law_end K { nx := fun _ H' => Q .non H', rt := Q } (L2.start N__law_end vs) H := body_W h (by decide) fun B w ds hp => by
  obtain ⟨_, e⟩ := hp
  subst e
  unfold t__law_end
  refine st_ret (ev_if (et_test (ev_op (ev_callW rfl (ea_cons (ev_int (ea_nil ⟨⟨_, rfl, by decide, by decide⟩, fun d ⟨m, wy, em, ed, _, _⟩ => ?_⟩)))))))
  subst ed
  refine ev_int (rok_eqI ⟨_, rfl, fun hb => ?_, fun hb => ?_⟩)
  · exact ev_tup (ea_cons (ev_int (ea_cons (ev_int (ea_nil ⟨by simp, (0, 1), rfl, am00⟩)))))
  · exact ev_callW rfl (ea_nil ⟨⟨trivial, rfl⟩, fun X ⟨x, ex, hx⟩ => ⟨x, ex, hx.to0⟩⟩)
theorem ok__law_end (T : Tx K mg) : FnOk P w K mg base CX0 4 T.a__law_end T.d__law_end p__law_end (sp__law_end K) := by
  refine T.F__law_end.ok sc__law_end (fun vs H Q E h => len__law_end K vs H Q E h) (fun cdv A outer s H vs Q E hr h => ?_)
  exact ⟨t__law_end K, (pss_one (ps_ret (pe_ifExp (pt_cmpR op_eq (pe_call (ok__law_wind T) (hr.mono (by decide)) rfl T.g__law_wind T.F__law_wind.kp (b__law_wind T) .nil pass0 (pa_cons (pv 0) (pa_cons pe_int pa_nil))) pe_int (nomark _)) (pe_tup (pa_cons pe_int (pa_cons pe_int pa_nil))) (pe_call (ok__law_amount T) (hr.mono (by decide)) rfl T.g__law_amount T.F__law_amount.kp (b__law_amount T) .nil pass0 (pa_cons (pv 0) pa_nil))))), pure__law_end K vs H Q E h⟩
/-! ### _law_line -/

def pre__law_line : List PyData → Prop := fun ds => True ∧ ds = []
def post__law_line : List PyData → PyData → Prop := fun ds d => ∃ dd ss : List Fr, d = lineD dd ss ∧ LineS dd ss
abbrev sp__law_line (K : PySem.W.Frag) : Sp := SpW K pre__law_line post__law_line
theorem len__law_line (K : PySem.W.Frag) (vs : List V) (H : Hp) (Q : VK) (E : XK) (h : sp__law_line K vs H Q E) : vs.length = p__law_line.length := len_W (n := 0) h fun ds hp => by
  obtain ⟨_, e⟩ := hp
  rw [e]; rfl
def t__law_line (K : PySem.W.Frag) : TS :=
  (tSeq (tAsg (tCall (sp__law_any K) [] E0 (tCons (tVar 0) (tCons (tLst (tCons (tC (.int 1)) (tCons (tC (.int 2)) (tCons (tC (.int 2)) (tCons (tC (.int 2)) (tCons (tC (.int 3)) (tCons (tC (.int 3)) (tCons (tC (.int 3)) (tCons (tC (.int 3)) (tCons (tC (.int 4)) (tCons (tC (.int 4)) (tCons (tC (.int 5)) tNil)))))))))))) tNil))) (gName 1))
  (tSeq (tAsg (tTup (tCons (tLc (iRng1 (tCons (tVar 1) tNil)) (gName 4) tYes (tCall (sp__law_amount K) [] E0 (tCons (tVar 0) tNil)) [4]) (tCons (tLc (iRng1 (tCons (tOp (rAddA K) (tVar 1) (tC (.int 1))) tNil)) (gName 4) tYes (tCall (sp__law_amount K) [] E0 (tCons (tVar 0) tNil)) [4]) tNil))) (gTup K 2 (gCons (gName 2) (gCons (gName 3) gNil))))
  (tSeq (tAsg (tTup (tCons (tCall (sp__law_end K) [] E0 (tCons (tVar 0) tNil)) (tCons (tCall (sp__law_end K) [] E0 (tCons (tVar 0) tNil)) tNil))) (gTup K 2 (gCons (gSub (tVar 3) (tC (.int 0)) rSetL) (gCons (gSub (tVar 3) (tVar 1) rSetL) gNil))))
  (tSeq (tIfS (tTest (tOp rEq (tCall (sp__law_wind K) [] E0 (tCons (tVar 0) (tCons (tC (.int 4)) tNil))) (tC (.int 0)))) (tSeq (tAsg (tLc (iRng1 (tCons (tVar 1) tNil)) (gName 4) tYes (tOp (rIx K) (tVar 2) (tCB rMin2Q (tCons (tVar 4) (tCons (tOp (rI0 fun i j => .int (i - j)) (tOp (rI0 fun i j => .int (i - j)) (tVar 1) (tC (.int 1))) (tVar 4)) tNil)))) [4]) (gName 2))
  (tAsg (tLc (iRng1 (tCons (tOp (rAddA K) (tVar 1) (tC (.int 1))) tNil)) (gName 4) tYes (tOp (rIx K) (tVar 3) (tCB rMin2Q (tCons (tVar 4) (tCons (tOp (rI0 fun i j => .int (i - j)) (tVar 1) (tVar 4)) tNil)))) [4]) (gName 3))) tNext)
  (tRet (tTup (tCons (tCB (rTupleQ K) (tCons (tVar 2) tNil)) (tCons (tCB (rTupleQ K) (tCons (tVar 3) tNil)) tNil))))))))
theorem pure__law_line (K : PySem.W.Frag) (vs : List V) (H : Hp) (Q : VK) (E : XK) (h : sp__law_line K vs H Q E) : t__law_line K { nx := fun _ H' => Q .non H', rt := Q } (L2.start N__law_line vs) H := body_W h (by decide) fun B w ds hp => by
  obtain ⟨_, e⟩ := hp
  subst e
  unfold t__law_line
  refine st_seq (st_asg (ev_callW rfl ?_))
  walk_at "dd"
  refine ⟨⟨_, rfl, by simp, by simp⟩, fun d ⟨xs, ex, hd⟩ => ?_⟩
  cases ex
  obtain ⟨c, rfl, c1, c5⟩ : ∃ c : Nat, d = .int (c : Int) ∧ 1 ≤ c ∧ c ≤ 5 := by
    have hd2 : d ∈ ([1, 2, 2, 2, 3, 3, 3, 3, 4, 4, 5] : List Nat).map fun c : Nat => PyData.int (c : Int) := hd
    obtain ⟨c, h1, rfl⟩ := List.mem_map.mp hd2
    have h2 : ∀ k ∈ ([1, 2, 2, 2, 3, 3, 3, 3, 4, 4, 5] : List Nat), 1 ≤ k ∧ k ≤ 5 := by decide
    exact ⟨c, rfl, (h2 c h1).1, (h2 c h1).2⟩
  have row : ∀ (i : Nat) (acc : List PyData) (x : Fr), (∃ r : List Fr, acc = r.map frD ∧ r.length = i ∧ ∀ y ∈ r, Am y) → Am x → ∃ r : List Fr, acc ++ [frD x] = r.map frD ∧ r.length = i + 1 ∧ ∀ y ∈ r, Am y := fun i acc x ⟨r, ea, lr, hr⟩ hx => by
    refine ⟨r ++ [x], by rw [ea, List.map_append]; rfl, by simp [lr], fun y hy => ?_⟩
    rcases List.mem_append.mp hy with q | q
    · exact hr y q
    · rw [List.mem_singleton.mp q]
      exact hx
  refine st_seq (st_unpOO (en_lcR (wipe1 4) (ea_cons (ev_var rfl (ea_nil ⟨_, rfl, by omega, by omega, fun i acc => ∃ r : List Fr, acc = r.map frD ∧ r.length = i ∧ ∀ y ∈ r, Am y, ⟨⟨[], rfl, rfl, by simp⟩, fun i D d' acc hi hJ hin => ?_⟩, fun acc1 hJ1 l1 => ?_⟩)))))
  · refine et_yes ⟨fun _ => ?_, fun z => nomatch z⟩
    exact ev_callW rfl (ea_nil ⟨⟨trivial, rfl⟩, fun X ⟨x, ex, hx⟩ => by rw [ex]; exact row i acc x hJ hx⟩)
  refine en_lcR (wipe1 4) (ea_cons (ev_op (ev_var rfl (ev_int (ro_add (ea_nil ⟨_, rfl, by omega, by omega, fun i acc => ∃ r : List Fr, acc = r.map frD ∧ r.length = i ∧ ∀ y ∈ r, Am y, ⟨⟨[], rfl, rfl, by simp⟩, fun i D d' acc hi hJ hin => ?_⟩, fun acc2 hJ2 l2 hne => ?_⟩))))))
  · refine et_yes ⟨fun _ => ?_, fun z => nomatch z⟩
    exact ev_callW rfl (ea_nil ⟨⟨trivial, rfl⟩, fun X ⟨x, ex, hx⟩ => by rw [ex]; exact row i acc x hJ hx⟩)
  obtain ⟨dd, rfl, ld, ad⟩ := hJ1
  obtain ⟨ss, rfl, ls, as⟩ := hJ2
  rw [Int.toNat_natCast] at ld
  rw [show ((c : Int) + 1).toNat = c + 1 by omega] at ls
  refine st_seq (st_setTwo rfl (ea_cons (ev_callW rfl (ea_nil ⟨⟨trivial, rfl⟩, fun X ⟨x, ex, hx⟩ => ea_cons (ev_callW rfl (ea_nil ⟨⟨trivial, rfl⟩, fun Y ⟨y, ey, hy⟩ => ea_nil ⟨X, Y, rfl, ev_int ⟨0, rfl, by simp; omega, ev_var rfl ⟨c, rfl, by simp; omega, ?_⟩⟩⟩⟩))⟩))))
  subst ex
  subst ey
  rw [← List.map_set, ← List.map_set]
  -- the ends are amounts or 0
  have hs : ∀ z ∈ (ss.set 0 x).set c y, Am0 z := fun z hz => by
    rcases List.mem_or_eq_of_mem_set hz with q | q
    · rcases List.mem_or_eq_of_mem_set q with q2 | q2
      · exact (as z q2).to0
      · rw [q2]
        exact hx
    · rw [q]
      exact hy
  have hi : ∀ i z, 0 < i → i < c → ((ss.set 0 x).set c y)[i]? = some z → Am z := fun i z h0 h1 hz => by
    rw [List.getElem?_set_ne (by omega), List.getElem?_set_ne (by omega)] at hz
    exact as z (List.mem_of_getElem? hz)
  have lt : ((ss.set 0 x).set c y).length = c + 1 := by simp [ls]
  generalize (ss.set 0 x).set c y = tt at hs hi lt ⊢
  have mk : ∀ (dd tt : List Fr), dd.length = c → tt.length = c + 1 → (∀ z ∈ dd, Am z) → (∀ z ∈ tt, Am0 z) → (∀ i z, 0 < i → i < c → tt[i]? = some z → Am z) → LineS dd tt := fun dd tt h1 h2 h3 h4 h5 => by
    refine ⟨⟨by omega, by omega, by omega, fun z hz => ?_, fun z hz => ?_, fun i z a b hz => (h5 i z a (by omega) hz).2.1⟩, fun z hz => ⟨(h3 z hz).2.2.1, (h3 z hz).2.2.2⟩, fun z hz => ⟨(h4 z hz).2.2.1, (h4 z hz).2.2.2⟩, by omega⟩
    · obtain ⟨a, b, c, d⟩ := h3 z hz
      exact ⟨a, b, by omega, by omega⟩
    · obtain ⟨a, b, c, d⟩ := h4 z hz
      exact ⟨a, b, by omega, by omega⟩
  refine st_freeze 3 rfl (by simp [hne, Ne.symm hne]) (st_freeze 2 rfl (by simp) ?_)
  have fin : ∀ (L : List Addr) (s4 : Sl) (dd tt : List Fr), LineS dd tt → StP K B [] L [.well w, .d (.int (c : Int)), .d (.list (dd.map frD)), .d (.list (tt.map frD)), s4] (tRet (tTup (tCons (tCB (rTupleQ K) (tCons (tVar 2) tNil)) (tCons (tCB (rTupleQ K) (tCons (tVar 3) tNil)) tNil)))) { nx := fun _ _ => post__law_line [] .none, rt := post__law_line [] } := fun L s4 dd tt h =>
    st_ret (ev_tup (ea_cons (ev_cb (ea_cons (ev_var rfl (ea_nil (co_tupL (ea_cons (ev_cb (ea_cons (ev_var rfl (ea_nil (co_tupL (ea_nil ⟨by simp, dd, tt, rfl, h⟩))))))))))))))
  refine st_seq (st_if (et_test (ev_op (ev_callW rfl (ea_cons (ev_int (ea_nil ⟨⟨4, rfl, by decide, by decide⟩, fun d ⟨m, z, em, ed, z0, z1⟩ => ?_⟩)))))))
  subst ed
  refine ev_int (rok_eqI ⟨_, rfl, fun _ => ?_, fun _ => st_next (fin _ _ dd tt (mk dd tt ld lt ad hs hi))⟩)
  refine st_seq (st_asg (ev_new (en_lcR (wipe1 4) (ea_cons (ev_var rfl (ea_nil ⟨_, rfl, by omega, by omega, fun i acc => acc = (List.range i).map fun j => frD (dd.getD (min j (c - 1 - j)) (0, 1)), ⟨rfl, fun i D d' acc hi2 hJ hin => ?_⟩, fun acc hJ => ?_⟩))))))
  · subst hi2
    refine et_yes ⟨fun _ => ?_, fun z => nomatch z⟩
    refine ev_op (ev_var rfl (ev_cb (ea_cons (ev_var rfl (ea_cons (ev_op (ev_op (ev_var rfl (ev_int (rok_i0 (ev_var rfl (rok_i0 (ea_nil (co_min ?_))))))))))))))
    have em : (if (c : Int) - 1 - (i : Int) < (i : Int) then (c : Int) - 1 - (i : Int) else (i : Int)) = ((min i (c - 1 - i) : Nat) : Int) := by
      rw [Int.toNat_natCast] at hin
      split <;> omega
    rw [em]
    refine rok_ixsL (d := frD (dd.getD (min i (c - 1 - i)) (0, 1))) ?_ ?_
    · rw [Int.toNat_natCast] at hin
      rw [atI_n, List.getElem?_map, List.getD_eq_getElem?_getD, List.getElem?_eq_getElem (by omega)]
      rfl
    · show _ = (List.range (i + 1)).map _
      rw [hJ, List.range_succ, List.map_append]
      rfl
  rw [Int.toNat_natCast] at hJ
  refine st_asg (ev_new (en_lcR (wipe1 4) (ea_cons (ev_op (ev_var rfl (ev_int (ro_add (ea_nil ⟨_, rfl, by omega, by omega, fun i acc => acc = (List.range i).map fun j => frD (tt.getD (min j (c - j)) (0, 1)), ⟨rfl, fun i D d' acc2 hi2 hJ2 hin => ?_⟩, fun acc2 hJ2 => ?_⟩))))))))
  · subst hi2
    refine et_yes ⟨fun _ => ?_, fun z => nomatch z⟩
    refine ev_op (ev_var rfl (ev_cb (ea_cons (ev_var rfl (ea_cons (ev_op (ev_var rfl (ev_var rfl (rok_i0 (ea_nil (co_min ?_)))))))))))
    rw [show ((c : Int) + 1).toNat = c + 1 by omega] at hin
    have em : (if (c : Int) - (i : Int) < (i : Int) then (c : Int) - (i : Int) else (i : Int)) = ((min i (c - i) : Nat) : Int) := by
      split <;> omega
    rw [em]
    refine rok_ixsL (d := frD (tt.getD (min i (c - i)) (0, 1))) ?_ ?_
    · rw [atI_n, List.getElem?_map, List.getD_eq_getElem?_getD, List.getElem?_eq_getElem (by omega)]
      rfl
    · show _ = (List.range (i + 1)).map _
      rw [hJ2, List.range_succ, List.map_append]
      rfl
  rw [show ((c : Int) + 1).toNat = c + 1 by omega] at hJ2
  have e1 : acc = ((List.range c).map fun j => dd.getD (min j (c - 1 - j)) (0, 1)).map frD := by
    rw [hJ, List.map_map]
    rfl
  have e2 : acc2 = ((List.range (c + 1)).map fun j => tt.getD (min j (c - j)) (0, 1)).map frD := by
    rw [hJ2, List.map_map]
    rfl
  rw [e1, e2]
  have gd : ∀ j, j < c → dd[j]? = some (dd.getD j (0, 1)) := fun j hj => by
    rw [List.getD_eq_getElem?_getD, List.getElem?_eq_getElem (by omega)]
    rfl
  have gt : ∀ j, j ≤ c → tt[j]? = some (tt.getD j (0, 1)) := fun j hj => by
    rw [List.getD_eq_getElem?_getD, List.getElem?_eq_getElem (by omega)]
    rfl
  refine fin _ _ _ _ (mk _ _ (by simp) (by simp) (fun z hz => ?_) (fun z hz => ?_) fun i z h0 h1 hz => ?_)
  · obtain ⟨j, hj, rfl⟩ := List.mem_map.mp hz
    have := List.mem_range.mp hj
    exact ad _ (List.mem_of_getElem? (gd (min j (c - 1 - j)) (by omega)))
  · obtain ⟨j, hj, rfl⟩ := List.mem_map.mp hz
    have := List.mem_range.mp hj
    exact hs _ (List.mem_of_getElem? (gt (min j (c - j)) (by omega)))
  · rw [List.getElem?_map, List.getElem?_range (by omega)] at hz
    cases hz
    exact hi (min i (c - i)) _ (by omega) (by omega) (gt _ (by omega))
theorem ok__law_line (T : Tx K mg) : FnOk P w K mg base CX0 5 T.a__law_line T.d__law_line p__law_line (sp__law_line K) := by
  refine T.F__law_line.ok sc__law_line (fun vs H Q E h => len__law_line K vs H Q E h) (fun cdv A outer s H vs Q E hr h => ?_)
  exact ⟨t__law_line K, (pss_cons (ps_set (i := 1) sc__law_line.nd rfl (Or.inr rfl) (pe_call (ok__law_any T) (hr.mono (by decide)) rfl T.g__law_any T.F__law_any.kp (b__law_any T) .nil pass0 (pa_cons (pv 0) (pa_cons (pe_lst (pa_cons pe_int (pa_cons pe_int (pa_cons pe_int (pa_cons pe_int (pa_cons pe_int (pa_cons pe_int (pa_cons pe_int (pa_cons pe_int (pa_cons pe_int (pa_cons pe_int (pa_cons pe_int pa_nil)))))))))))) pa_nil))))
  (pss_cons (ps_asg (pe_tup (pa_cons (pe_lc (own := [("_law_at", 4)]) (by rfl) sc__law_line.nd (pi_range1 (by rfl) T.n_range (pa_cons (pv 1) pa_nil)) (blkOk_by (own := [("_law_at", 4)]) (N := N__law_line) (sc := defScope s__law_line) (by decide +kernel)) (fun _ _ _ _ _ => pg_name (i := 4) sc__law_line.nd rfl (Or.inl rfl)) (fun _ _ _ _ _ => pts_nil) (fun _ _ _ _ _ => (pe_call (ok__law_amount T) (hr.mono (by decide)) rfl T.g__law_amount T.F__law_amount.kp (b__law_amount T) .nil pass0 (pa_cons (pv 0) pa_nil)))) (pa_cons (pe_lc (own := [("_law_at", 4)]) (by rfl) sc__law_line.nd (pi_range1 (by rfl) T.n_range (pa_cons (pe_op op_addA (pv 1) pe_int) pa_nil)) (blkOk_by (own := [("_law_at", 4)]) (N := N__law_line) (sc := defScope s__law_line) (by decide +kernel)) (fun _ _ _ _ _ => pg_name (i := 4) sc__law_line.nd rfl (Or.inl rfl)) (fun _ _ _ _ _ => pts_nil) (fun _ _ _ _ _ => (pe_call (ok__law_amount T) (hr.mono (by decide)) rfl T.g__law_amount T.F__law_amount.kp (b__law_amount T) .nil pass0 (pa_cons (pv 0) pa_nil)))) pa_nil))) (pg_tup (by rfl) (pgs_cons (pg_name (i := 2) sc__law_line.nd rfl (Or.inr rfl)) (pgs_cons (pg_name (i := 3) sc__law_line.nd rfl (Or.inr rfl)) pgs_nil))))
  (pss_cons (ps_asg (pe_tup (pa_cons (pe_call (ok__law_end T) (hr.mono (by decide)) rfl T.g__law_end T.F__law_end.kp (b__law_end T) .nil pass0 (pa_cons (pv 0) pa_nil)) (pa_cons (pe_call (ok__law_end T) (hr.mono (by decide)) rfl T.g__law_end T.F__law_end.kp (b__law_end T) .nil pass0 (pa_cons (pv 0) pa_nil)) pa_nil))) (pg_tup (by rfl) (pgs_cons (pg_sub (pv 3) pe_int set_list) (pgs_cons (pg_sub (pv 3) (pv 1) set_list) pgs_nil))))
  (pss_cons (ps_if (pt_cmpR op_eq (pe_call (ok__law_wind T) (hr.mono (by decide)) rfl T.g__law_wind T.F__law_wind.kp (b__law_wind T) .nil pass0 (pa_cons (pv 0) (pa_cons pe_int pa_nil))) pe_int (nomark _)) (pss_cons (ps_set (i := 2) sc__law_line.nd rfl (Or.inr rfl) (pe_lc (own := [("_law_at", 4)]) (by rfl) sc__law_line.nd (pi_range1 (by rfl) T.n_range (pa_cons (pv 1) pa_nil)) (blkOk_by (own := [("_law_at", 4)]) (N := N__law_line) (sc := defScope s__law_line) (by decide +kernel)) (fun _ _ _ _ _ => pg_name (i := 4) sc__law_line.nd rfl (Or.inl rfl)) (fun _ _ _ _ _ => pts_nil) (fun _ _ _ _ _ => (pe_ix ix_seq (pv 2) (pe_callB (call_min2 rfl) (by rfl) T.n_min (by decide +kernel) (pa_cons (pv 4) (pa_cons (pe_op op_sub (pe_op op_sub (pv 1) pe_int) (pv 4)) pa_nil))) (fun _ _ => rfl)))))
  (pss_one (ps_set (i := 3) sc__law_line.nd rfl (Or.inr rfl) (pe_lc (own := [("_law_at", 4)]) (by rfl) sc__law_line.nd (pi_range1 (by rfl) T.n_range (pa_cons (pe_op op_addA (pv 1) pe_int) pa_nil)) (blkOk_by (own := [("_law_at", 4)]) (N := N__law_line) (sc := defScope s__law_line) (by decide +kernel)) (fun _ _ _ _ _ => pg_name (i := 4) sc__law_line.nd rfl (Or.inl rfl)) (fun _ _ _ _ _ => pts_nil) (fun _ _ _ _ _ => (pe_ix ix_seq (pv 3) (pe_callB (call_min2 rfl) (by rfl) T.n_min (by decide +kernel) (pa_cons (pv 4) (pa_cons (pe_op op_sub (pv 1) (pv 4)) pa_nil))) (fun _ _ => rfl))))))) pss_nil)
  (pss_one (ps_ret (pe_tup (pa_cons (pe_callTy call_tuple_of (by rfl) T.n_tuple (by decide +kernel) (pa_cons (pv 2) pa_nil)) (pa_cons (pe_callTy call_tuple_of (by rfl) T.n_tuple (by decide +kernel) (pa_cons (pv 3) pa_nil)) pa_nil))))))))), pure__law_line K vs H Q E h⟩
/-! ### _law_slots -/

def pre__law_slots : List PyData → Prop := fun ds => ∃ dd ss : List Fr, ds = [lineD dd ss] ∧ dd.length ≤ 8
def post__law_slots : List PyData → PyData → Prop := fun ds d => ∃ dd ss : List Fr, ds = [lineD dd ss] ∧ d = .list ((List.range dd.length).map (slotD true) ++ (List.range (dd.length + 1)).map (slotD false))
abbrev sp__law_slots (K : PySem.W.Frag) : Sp := SpP K pre__law_slots post__law_slots
theorem len__law_slots (K : PySem.W.Frag) (vs : List V) (H : Hp) (Q : VK) (E : XK) (h : sp__law_slots K vs H Q E) : vs.length = p__law_slots.length := len_P (n := 1) h fun ds hp => by
  obtain ⟨dd, ss, e, h⟩ := hp
  rw [e]; rfl
def t__law_slots (K : PySem.W.Frag) : TS :=
  (tSeq (tAsg (tCB (rLenQ K) (tCons (tOp (rIx K) (tVar 0) (tC (.int 0))) tNil)) (gName 1))
  (tRet (tOp (rAddA K) (tLc (iRng1 (tCons (tVar 1) tNil)) (gName 2) tYes (tTup (tCons (tC (.str ("disc" : Str))) (tCons (tVar 2) tNil))) [2]) (tLc (iRng1 (tCons (tOp (rAddA K) (tVar 1) (tC (.int 1))) tNil)) (gName 2) tYes (tTup (tCons (tC (.str ("shaft" : Str))) (tCons (tVar 2) tNil))) [2]))))
theorem pure__law_slots (K : PySem.W.Frag) (vs : List V) (H : Hp) (Q : VK) (E : XK) (h : sp__law_slots K vs H Q E) : t__law_slots K { nx := fun _ H' => Q .non H', rt := Q } (L2.start N__law_slots vs) H := body_P h fun B ds hW hp => by
  obtain ⟨dd, ss, e, h⟩ := hp
  subst e
  unfold t__law_slots
  have n8 := h
  refine st_seq (st_asg (ev_cb (ea_cons (ev_op (ev_var rfl (ev_int (rok_ixsT (d := .tuple (dd.map frD)) rfl (ea_nil (co_lenT ?_)))))))))
  rw [List.length_map]
  refine st_ret (ev_op (ev_new (en_lcR (wipe1 2) (ea_cons (ev_var rfl (ea_nil ⟨_, rfl, by omega, by omega, fun i acc => acc = (List.range i).map (slotD true), ⟨rfl, fun i D d' acc hi hJ hin => ?_⟩, fun acc hJ => ?_⟩))))))
  · subst hi
    refine et_yes ⟨fun _ => ?_, fun z => nomatch z⟩
    refine ev_tup (ea_cons (ev_str (ea_cons (ev_var rfl (ea_nil ⟨by simp, ?_⟩)))))
    show _ = (List.range (i + 1)).map (slotD true)
    rw [hJ, List.range_succ, List.map_append]
    rfl
  refine ev_new (en_lcR (wipe1 2) (ea_cons (ev_op (ev_var rfl (ev_int (ro_add (ea_nil ⟨_, rfl, by omega, by omega, fun i acc => acc = (List.range i).map (slotD false), ⟨rfl, fun i D d' acc hi hJ hin => ?_⟩, fun acc2 hJ2 => ?_⟩)))))))
  · subst hi
    refine et_yes ⟨fun _ => ?_, fun z => nomatch z⟩
    refine ev_tup (ea_cons (ev_str (ea_cons (ev_var rfl (ea_nil ⟨by simp, ?_⟩)))))
    show _ = (List.range (i + 1)).map (slotD false)
    rw [hJ, List.range_succ, List.map_append]
    rfl
  rw [Int.toNat_natCast] at hJ
  rw [show ((dd.length : Int) + 1).toNat = dd.length + 1 by omega] at hJ2
  subst hJ
  subst hJ2
  exact ro_catL (by simp; omega) ⟨dd, ss, rfl, rfl⟩
theorem ok__law_slots (T : Tx K mg) : FnOk P w K mg base CX0 1 T.a__law_slots T.d__law_slots p__law_slots (sp__law_slots K) := by
  refine T.F__law_slots.ok sc__law_slots (fun vs H Q E h => len__law_slots K vs H Q E h) (fun cdv A outer s H vs Q E hr h => ?_)
  exact ⟨t__law_slots K, (pss_cons (ps_set (i := 1) sc__law_slots.nd rfl (Or.inl rfl) (pe_callB call_len_seq (by rfl) T.n_len (by decide +kernel) (pa_cons (pe_ix ix_seq (pv 0) pe_int (fun _ _ => rfl)) pa_nil)))
  (pss_one (ps_ret (pe_op op_addA (pe_lc (own := [("_law_at", 2)]) (by rfl) sc__law_slots.nd (pi_range1 (by rfl) T.n_range (pa_cons (pv 1) pa_nil)) (blkOk_by (own := [("_law_at", 2)]) (N := N__law_slots) (sc := defScope s__law_slots) (by decide +kernel)) (fun _ _ _ _ _ => pg_name (i := 2) sc__law_slots.nd rfl (Or.inl rfl)) (fun _ _ _ _ _ => pts_nil) (fun _ _ _ _ _ => (pe_tup (pa_cons pe_str (pa_cons (pv 2) pa_nil))))) (pe_lc (own := [("_law_at", 2)]) (by rfl) sc__law_slots.nd (pi_range1 (by rfl) T.n_range (pa_cons (pe_op op_addA (pv 1) pe_int) pa_nil)) (blkOk_by (own := [("_law_at", 2)]) (N := N__law_slots) (sc := defScope s__law_slots) (by decide +kernel)) (fun _ _ _ _ _ => pg_name (i := 2) sc__law_slots.nd rfl (Or.inl rfl)) (fun _ _ _ _ _ => pts_nil) (fun _ _ _ _ _ => (pe_tup (pa_cons pe_str (pa_cons (pv 2) pa_nil))))))))), pure__law_slots K vs H Q E h⟩
/-! ### _law_put -/

def pre__law_put : List PyData → Prop := fun ds => ∃ (dd ss : List Fr) (b : Bool) (i : Nat) (x : Fr), ds = [lineD dd ss, slotD b i, frD x] ∧ slotOk dd ss b i
def post__law_put : List PyData → PyData → Prop := fun ds d => ∃ (dd ss : List Fr) (b : Bool) (i : Nat) (x : Fr), ds = [lineD dd ss, slotD b i, frD x] ∧ d = lineP (putS dd ss b i x)
abbrev sp__law_put (K : PySem.W.Frag) : Sp := SpP K pre__law_put post__law_put
theorem len__law_put (K : PySem.W.Frag) (vs : List V) (H : Hp) (Q : VK) (E : XK) (h : sp__law_put K vs H Q E) : vs.length = p__law_put.length := len_P (n := 3) h fun ds hp => by
  obtain ⟨dd, ss, b, i, x, e, hi⟩ := hp
  rw [e]; rfl
def t__law_put (K : PySem.W.Frag) : TS :=
  (tSeq (tPar 3 4 (tCons (tCB (rListQ K) (tCons (tOp (rIx K) (tVar 0) (tC (.int 0))) tNil)) (tCons (tCB (rListQ K) (tCons (tOp (rIx K) (tVar 0) (tC (.int 1))) tNil)) tNil)))
  (tSeq (tIfS (tTest (tOp rEq (tOp (rIx K) (tVar 1) (tC (.int 0))) (tC (.str ("disc" : Str))))) (tAsg (tVar 2) (gSub (tVar 3) (tOp (rIx K) (tVar 1) (tC (.int 1))) rSetL)) (tAsg (tVar 2) (gSub (tVar 4) (tOp (rIx K) (tVar 1) (tC (.int 1))) rSetL)))
  (tRet (tTup (tCons (tCB (rTupleQ K) (tCons (tVar 3) tNil)) (tCons (tCB (rTupleQ K) (tCons (tVar 4) tNil)) tNil))))))
theorem pure__law_put (K : PySem.W.Frag) (vs : List V) (H : Hp) (Q : VK) (E : XK) (h : sp__law_put K vs H Q E) : t__law_put K { nx := fun _ H' => Q .non H', rt := Q } (L2.start N__law_put vs) H := body_P h fun B ds hW hp => by
  obtain ⟨dd, ss, b, i, x, e, hi⟩ := hp
  subst e
  unfold t__law_put
  refine st_seq (st_parOO (en_listQ (ev_op (ev_var rfl (ev_int (rok_ixsT (d := .tuple (dd.map frD)) rfl ⟨_, .inl rfl, fun l1 => en_listQ (ev_op (ev_var rfl (ev_int (rok_ixsT (d := .tuple (ss.map frD)) rfl ⟨_, .inl rfl, fun l2 hne => ?_⟩))))⟩))))))
  have fin : ∀ (dd2 ss2 : List Fr), (dd2, ss2) = putS dd ss b i x → StP K B [] [l2, l1] [.d (lineD dd ss), .d (slotD b i), .d (frD x), .own l1 (dd2.map frD), .own l2 (ss2.map frD)] (tRet (tTup (tCons (tCB (rTupleQ K) (tCons (tVar 3) tNil)) (tCons (tCB (rTupleQ K) (tCons (tVar 4) tNil)) tNil)))) { nx := fun _ _ => post__law_put [lineD dd ss, slotD b i, frD x] .none, rt := post__law_put [lineD dd ss, slotD b i, frD x] } := fun dd2 ss2 he =>
    st_ret (ev_tup (ea_cons (ev_tupOwn rfl (ea_cons (ev_tupOwn rfl (ea_nil ⟨by simp, dd, ss, b, i, x, rfl, by rw [← he]; rfl⟩))))))
  cases b with
  | true =>
    have hi : i < dd.length := hi
    refine st_seq (st_if (et_test (ev_op (ev_op (ev_var rfl (ev_int (rok_ixsT (d := .str ("disc" : Str)) rfl (ev_str (rok_eqS ⟨_, rfl, fun _ => ?_, (fun hb => absurd (of_decide_eq_false hb) (fun z => z rfl))⟩)))))))))
    refine st_setOwn rfl (ev_var rfl (ev_op (ev_var rfl (ev_int (rok_ixsT (d := .int (i : Int)) rfl ⟨i, rfl, by simp; omega, ?_⟩)))))
    rw [← List.map_set]
    exact fin _ _ rfl
  | false =>
    have hi : i < ss.length := hi
    refine st_seq (st_if (et_test (ev_op (ev_op (ev_var rfl (ev_int (rok_ixsT (d := .str ("shaft" : Str)) rfl (ev_str (rok_eqS ⟨_, rfl, (fun hb => absurd (of_decide_eq_true hb) (by decide)), fun _ => ?_⟩)))))))))
    refine st_setOwn rfl (ev_var rfl (ev_op (ev_var rfl (ev_int (rok_ixsT (d := .int (i : Int)) rfl ⟨i, rfl, by simp; omega, ?_⟩)))))
    rw [← List.map_set]
    exact fin _ _ rfl
theorem ok__law_put (T : Tx K mg) : FnOk P w K mg base CX0 1 T.a__law_put T.d__law_put p__law_put (sp__law_put K) := by
  refine T.F__law_put.ok sc__law_put (fun vs H Q E h => len__law_put K vs H Q E h) (fun cdv A outer s H vs Q E hr h => ?_)
  exact ⟨t__law_put K, (pss_cons (ps_par (by rfl) sc__law_put.nd rfl rfl (by decide) rfl rfl (pa_cons (pe_callTy call_list_of (by rfl) T.n_list (by decide +kernel) (pa_cons (pe_ix ix_seq (pv 0) pe_int (fun _ _ => rfl)) pa_nil)) (pa_cons (pe_callTy call_list_of (by rfl) T.n_list (by decide +kernel) (pa_cons (pe_ix ix_seq (pv 0) pe_int (fun _ _ => rfl)) pa_nil)) pa_nil)) (by rfl))
  (pss_cons (ps_if (pt_cmpR op_eq (pe_ix ix_seq (pv 1) pe_int (fun _ _ => rfl)) pe_str (nomark _)) (pss_one (ps_asg (pv 2) (pg_sub (pv 3) (pe_ix ix_seq (pv 1) pe_int (fun _ _ => rfl)) set_list))) (pss_one (ps_asg (pv 2) (pg_sub (pv 4) (pe_ix ix_seq (pv 1) pe_int (fun _ _ => rfl)) set_list))))
  (pss_one (ps_ret (pe_tup (pa_cons (pe_callTy call_tuple_of (by rfl) T.n_tuple (by decide +kernel) (pa_cons (pv 3) pa_nil)) (pa_cons (pe_callTy call_tuple_of (by rfl) T.n_tuple (by decide +kernel) (pa_cons (pv 4) pa_nil)) pa_nil))))))), pure__law_put K vs H Q E h⟩
/-! ### _law_held -/

def pre__law_held : List PyData → Prop := fun ds => ∃ (dd ss : List Fr) (b : Bool) (i : Nat), ds = [lineD dd ss, slotD b i] ∧ slotOk dd ss b i
def post__law_held : List PyData → PyData → Prop := fun ds d => ∃ (dd ss : List Fr) (b : Bool) (i : Nat), ds = [lineD dd ss, slotD b i] ∧ d = frD (heldS dd ss b i)
abbrev sp__law_held (K : PySem.W.Frag) : Sp := SpP K pre__law_held post__law_held
theorem len__law_held (K : PySem.W.Frag) (vs : List V) (H : Hp) (Q : VK) (E : XK) (h : sp__law_held K vs H Q E) : vs.length = p__law_held.length := len_P (n := 2) h fun ds hp => by
  obtain ⟨dd, ss, b, i, e, hi⟩ := hp
  rw [e]; rfl
def t__law_held (K : PySem.W.Frag) : TS :=
  (tRet (tIf (tTest (tOp rEq (tOp (rIx K) (tVar 1) (tC (.int 0))) (tC (.str ("disc" : Str))))) (tOp (rIx K) (tOp (rIx K) (tVar 0) (tC (.int 0))) (tOp (rIx K) (tVar 1) (tC (.int 1)))) (tOp (rIx K) (tOp (rIx K) (tVar 0) (tC (.int 1))) (tOp (rIx K) (tVar 1) (tC (.int 1))))))
theorem pure__law_held (K : PySem.W.Frag) (vs : List V) (H : Hp) (Q : VK) (E : XK) (h : sp__law_held K vs H Q E) : t__law_held K { nx := fun _ H' => Q .non H', rt := Q } (L2.start N__law_held vs) H := body_P h fun B ds hW hp => by
  obtain ⟨dd, ss, b, i, e, hi⟩ := hp
  subst e
  unfold t__law_held
  cases b with
  | true =>
    have hi : i < dd.length := hi
    refine st_ret (ev_if (et_test (ev_op (ev_op (ev_var rfl (ev_int (rok_ixsT (d := .str ("disc" : Str)) rfl (ev_str (rok_eqS ⟨_, rfl, fun _ => ?_, (fun hb => absurd (of_decide_eq_false hb) (fun z => z rfl))⟩)))))))))
    refine ev_op (ev_op (ev_var rfl (ev_int (rok_ixsT (d := .tuple (dd.map frD)) rfl (ev_op (ev_var rfl (ev_int (rok_ixsT (d := .int (i : Int)) rfl (rok_ixsT (d := frD (dd.getD i (0, 1))) ?_ ⟨dd, ss, true, i, rfl, rfl⟩)))))))))
    rw [atI_n, List.getElem?_map, List.getD_eq_getElem?_getD, List.getElem?_eq_getElem hi]
    rfl
  | false =>
    have hi : i < ss.length := hi
    refine st_ret (ev_if (et_test (ev_op (ev_op (ev_var rfl (ev_int (rok_ixsT (d := .str ("shaft" : Str)) rfl (ev_str (rok_eqS ⟨_, rfl, (fun hb => absurd (of_decide_eq_true hb) (by decide)), fun _ => ?_⟩)))))))))
    refine ev_op (ev_op (ev_var rfl (ev_int (rok_ixsT (d := .tuple (ss.map frD)) rfl (ev_op (ev_var rfl (ev_int (rok_ixsT (d := .int (i : Int)) rfl (rok_ixsT (d := frD (ss.getD i (0, 1))) ?_ ⟨dd, ss, false, i, rfl, rfl⟩)))))))))
    rw [atI_n, List.getElem?_map, List.getD_eq_getElem?_getD, List.getElem?_eq_getElem hi]
    rfl
theorem ok__law_held (T : Tx K mg) : FnOk P w K mg base CX0 1 T.a__law_held T.d__law_held p__law_held (sp__law_held K) := by
  refine T.F__law_held.ok sc__law_held (fun vs H Q E h => len__law_held K vs H Q E h) (fun cdv A outer s H vs Q E hr h => ?_)
  exact ⟨t__law_held K, (pss_one (ps_ret (pe_ifExp (pt_cmpR op_eq (pe_ix ix_seq (pv 1) pe_int (fun _ _ => rfl)) pe_str (nomark _)) (pe_ix ix_seq (pe_ix ix_seq (pv 0) pe_int (fun _ _ => rfl)) (pe_ix ix_seq (pv 1) pe_int (fun _ _ => rfl)) (fun _ _ => rfl)) (pe_ix ix_seq (pe_ix ix_seq (pv 0) pe_int (fun _ _ => rfl)) (pe_ix ix_seq (pv 1) pe_int (fun _ _ => rfl)) (fun _ _ => rfl))))), pure__law_held K vs H Q E h⟩
/-! ### _law_laps -/
def sp__law_laps (K : PySem.W.Frag) : Sp := fun vs H Q _ => ∃ (a : Addr) (ns : List Int) (m : Nat), vs = [.ref a, .int (m : Int)] ∧ SqL K H a (ns.map V.int) ∧ ns.length ≤ 63 ∧ 1 ≤ m ∧ m ≤ 100 ∧ ∀ p H' (k : Nat), Same H H' → H p = none → 1 ≤ k → k ≤ 100 → H' p = some (.lst (((List.range k).map fun i : Nat => (i : Int)).map V.int)) → Q (.ref p) H'
theorem len__law_laps (K : PySem.W.Frag) (vs : List V) (H : Hp) (Q : VK) (E : XK) (h : sp__law_laps K vs H Q E) : vs.length = p__law_laps.length := by
  obtain ⟨a, ns, n, rfl, _⟩ := h
  rfl
def t__law_laps (K : PySem.W.Frag) : TS :=
  (tRet (tLstRg (tRg1 (tCB rMax2Q (tCons (tC (.int 1)) (tCons (tCB rMin2Q (tCons (tCB (rLenQ K) (tCons (tVar 0) tNil)) (tCons (tVar 1) tNil))) tNil))))))
theorem pure__law_laps (K : PySem.W.Frag) (vs : List V) (H : Hp) (Q : VK) (E : XK) (h : sp__law_laps K vs H Q E) : t__law_laps K { nx := fun _ H' => Q .non H', rt := Q } (L2.start N__law_laps vs) H := by
  obtain ⟨a, ns, m, rfl, hS, hlen, m1, m2, q⟩ := h
  unfold t__law_laps
  refine ⟨_, rfl, a, _, rfl, .inl hS, _, rfl, _, _, rfl, _, _, rfl, _, rfl, ?_, fun p hp => ?_⟩
  · refine RgOk.of_le (by omega) ?_ (by omega) ?_
    · rw [List.length_map]
      split <;> (split <;> omega)
    · split <;> (split <;> omega)
  · generalize hk : (if (if (m : Int) < (((ns.map V.int).length : Nat) : Int) then (m : Int) else (((ns.map V.int).length : Nat) : Int)) > 1 then (if (m : Int) < (((ns.map V.int).length : Nat) : Int) then (m : Int) else (((ns.map V.int).length : Nat) : Int)) else (1 : Int)) = kk
    have b1 : 1 ≤ kk ∧ kk ≤ 100 := by
      rw [← hk, List.length_map]
      split <;> (split <;> omega)
    obtain ⟨k, rfl⟩ : ∃ k : Nat, kk = (k : Int) := ⟨kk.toNat, by omega⟩
    have e : rgV 0 (k : Int) = ((List.range k).map fun i : Nat => (i : Int)).map V.int := by
      unfold rgV
      rw [show ((k : Int) - 0).toNat = k by omega, List.map_map]
      apply List.map_congr_left
      intro i _
      show V.int (0 + (i : Int)) = V.int (i : Int)
      rw [Int.zero_add]
    rw [e]
    exact q p _ k (same_upd hp) hp (by omega) (by omega) upd_same
theorem ok__law_laps (T : Tx K mg) : FnOk P w K mg base CX0 1 T.a__law_laps T.d__law_laps p__law_laps (sp__law_laps K) := by
  refine T.F__law_laps.ok sc__law_laps (fun vs H Q E h => len__law_laps K vs H Q E h) (fun cdv A outer s H vs Q E hr h => ?_)
  exact ⟨t__law_laps K, (pss_one (ps_ret (pe_listRg rfl (by rfl) T.n_list (prg_1 (by rfl) T.n_range (pe_callB (call_max2 rfl) (by rfl) T.n_max (by decide +kernel) (pa_cons pe_int (pa_cons (pe_callB (call_min2 rfl) (by rfl) T.n_min (by decide +kernel) (pa_cons (pe_callB call_len_seq (by rfl) T.n_len (by decide +kernel) (pa_cons (pv 0) pa_nil)) (pa_cons (pv 1) pa_nil))) pa_nil))))))), pure__law_laps K vs H Q E h⟩
/-! ### _law_pair_box -/
theorem slotD_inj {b c : Bool} {i j : Nat} (h : slotD b i = slotD c j) : b = c ∧ i = j := by
  unfold slotD at h
  simp only [PyData.tuple.injEq, List.cons.injEq, and_true, PyData.str.injEq, PyData.int.injEq] at h
  obtain ⟨h1, h2⟩ := h
  refine ⟨?_, by omega⟩
  cases b <;> cases c
  · rfl
  · exact absurd h1 (by decide)
  · exact absurd h1 (by decide)
  · rfl
theorem put_inj {a b c d : List Fr} {s t : Bool} {i j : Nat} {x y : Fr} (h : [lineD a b, slotD s i, frD x] = [lineD c d, slotD t j, frD y]) : a = c ∧ b = d ∧ s = t ∧ i = j ∧ x = y := by
  simp only [List.cons.injEq, and_true] at h
  obtain ⟨h1, h2, h3⟩ := h
  obtain ⟨rfl, rfl⟩ := lineD_inj (a := a) (b := b) (c := c) (d := d) (by rw [h1])
  obtain ⟨rfl, rfl⟩ := slotD_inj h2
  exact ⟨rfl, rfl, rfl, rfl, frD_inj h3⟩
theorem ls_inj {a b c d : List Fr} {s t : Bool} {i j : Nat} (h : [lineD a b, slotD s i] = [lineD c d, slotD t j]) : a = c ∧ b = d ∧ s = t ∧ i = j := by
  simp only [List.cons.injEq, and_true] at h
  obtain ⟨h1, h2⟩ := h
  obtain ⟨rfl, rfl⟩ := lineD_inj (a := a) (b := b) (c := c) (d := d) (by rw [h1])
  obtain ⟨rfl, rfl⟩ := slotD_inj h2
  exact ⟨rfl, rfl, rfl, rfl⟩
theorem fr_ge {k : Fr} (h : 0 < k.2) (q : k.2 ≤ k.1) : if true = true then (1 : Rat) ≤ val k else val k ≤ 1 := by
  rw [if_pos rfl]
  have h1 := ratInt_pos h
  have h0 := ratInt_ne (a := k.2) (by omega)
  have h2 : (k.2 : Rat) ≤ (k.1 : Rat) := Rat.intCast_le_intCast.mpr q
  have e : val k * (k.2 : Rat) = (k.1 : Rat) := by
    unfold val
    grind
  refine Rat.not_lt.mp fun z => ?_
  have := Rat.mul_pos (show 0 < 1 - val k by grind) h1
  grind
theorem fr_le {k : Fr} (h : 0 < k.1) (q : k.2 ≤ k.1) : if false = true then (1 : Rat) ≤ val (k.2, k.1) else val (k.2, k.1) ≤ 1 := by
  rw [if_neg (by decide)]
  have h1 := ratInt_pos h
  have h0 := ratInt_ne (a := k.1) (by omega)
  have h2 : (k.2 : Rat) ≤ (k.1 : Rat) := Rat.intCast_le_intCast.mpr q
  have e : val (k.2, k.1) * (k.1 : Rat) = (k.2 : Rat) := by
    show (k.2 : Rat) / (k.1 : Rat) * (k.1 : Rat) = _
    grind
  refine Rat.not_lt.mp fun z => ?_
  have := Rat.mul_pos (show 0 < val (k.2, k.1) - 1 by grind) h1
  grind
theorem slow_put {dd ss ee ts : List Fr} {b : Bool} {j : Nat} {y : Fr} (hD : LQ dd ss) (ld : dd.length = ee.length) (k1 : slotOk dd ss b j) (hf : FOk y) (hf0 : 0 ≤ y.1) (hfp : b = true ∨ (0 < j ∧ j < dd.length) → 0 < y.1) (hb1 : y.1 < 64) (hb2 : y.2 < 64) (hv : val y = if b = true then jv ee j else jv ts j) (inv : ∀ p ∈ slotsOf ee.length, SOk dd ss ee ts p) {kk : Fr} (a1 : 0 < kk.1) (a2 : kk.1 ≤ 5) (a3 : 0 < kk.2) (a4 : kk.2 ≤ 5) (hk : if b = true then (1 : Rat) ≤ val kk else val kk ≤ 1) {r : Fr} (fr : FOk r) (vr : val r = val y * val kk) (r1 : r.1.natAbs ≤ (y.1 * kk.1).natAbs) (r2 : r.2.natAbs ≤ (y.2 * kk.2).natAbs) : LQ (putS dd ss b j r).1 (putS dd ss b j r).2 ∧ (putS dd ss b j r).1.length = ee.length ∧ ∀ p ∈ slotsOf ee.length, SOk (putS dd ss b j r).1 (putS dd ss b j r).2 ee ts p := by
  have y2 := hf.1
  have q6 : (2 : Nat) ^ 6 = 64 := rfl
  have q3 : (2 : Nat) ^ 3 = 8 := rfl
  have q9 : (2 : Nat) ^ (6 + 3) = 512 := rfl
  have b1 := natAbs_mul_lt (a := y.1) (b := kk.1) (m := 6) (n := 3) (by omega) (by omega)
  have b2 := natAbs_mul_lt (a := y.2) (b := kk.2) (m := 6) (n := 3) (by omega) (by omega)
  have r0 := fr.1
  have vk : 0 < val kk := ((val_pos a3).1).mpr a1
  have vy : 0 ≤ val y := ((val_pos y2).2.1).mpr hf0
  have vr0 : 0 ≤ val r := by
    rw [vr]
    exact Rat.mul_nonneg vy (Rat.le_of_lt vk)
  have r10 : 0 ≤ r.1 := ((val_pos r0).2.1).mp vr0
  refine ⟨put_lq hD fr r10 (by omega) (by omega) (fun q => ?_), (put_len2 ..).trans ld, put_sok k1 inv ?_⟩
  · have : 0 < val y := ((val_pos y2).1).mpr (hfp q)
    refine ((val_pos r0).1).mp ?_
    rw [vr]
    exact Rat.mul_pos this vk
  · cases b with
    | true =>
      rw [if_pos rfl] at hk hv ⊢
      rw [vr, ← hv]
      have : 0 ≤ val y * (val kk - 1) := Rat.mul_nonneg vy (by grind)
      grind
    | false =>
      rw [if_neg (by decide)] at hk hv ⊢
      rw [vr, ← hv]
      have : 0 ≤ val y * (1 - val kk) := Rat.mul_nonneg vy (by grind)
      grind

def pre__law_pair_box : List PyData → Prop := fun ds => True ∧ ds = []
def post__law_pair_box : List PyData → PyData → Prop := fun ds d => ∃ dd ss ee ts : List Fr, d = .tuple [lineD dd ss, lineD ee ts] ∧ LQ dd ss ∧ LQ ee ts ∧ NF dd ss ee ts
abbrev sp__law_pair_box (K : PySem.W.Frag) : Sp := SpW K pre__law_pair_box post__law_pair_box
theorem len__law_pair_box (K : PySem.W.Frag) (vs : List V) (H : Hp) (Q : VK) (E : XK) (h : sp__law_pair_box K vs H Q E) : vs.length = p__law_pair_box.length := len_W (n := 0) h fun ds hp => by
  obtain ⟨_, e⟩ := hp
  rw [e]; rfl
def t__law_pair_box (K : PySem.W.Frag) : TS :=
  (tSeq (tAsg (tCall (sp__law_line K) [] E0 (tCons (tVar 0) tNil)) (gName 1))
  (tSeq (tPar 2 3 (tCons (tVar 1) (tCons (tCB (rLenQ K) (tCons (tOp (rIx K) (tVar 1) (tC (.int 0))) tNil)) tNil)))
  (tSeq (tFor (iList K (tCall (sp__law_slots K) [] E0 (tCons (tVar 1) tNil))) (gName 4) (tSeq (tPar 5 6 (tCons (tCall (sp__law_wind K) [] E0 (tCons (tVar 0) (tCons (tC (.int 3)) tNil))) (tCons (tCall (sp__law_held K) [] E0 (tCons (tVar 1) (tCons (tVar 4) tNil))) tNil)))
  (tSeq (tAsg (tCall (sp__law_any K) [] E0 (tCons (tVar 0) (tCons (tLst (tCons (tTup (tCons (tC (.int 2)) (tCons (tC (.int 1)) tNil))) (tCons (tTup (tCons (tC (.int 3)) (tCons (tC (.int 2)) tNil))) (tCons (tTup (tCons (tC (.int 5)) (tCons (tC (.int 4)) tNil))) (tCons (tTup (tCons (tC (.int 4)) (tCons (tC (.int 1)) tNil))) tNil))))) tNil))) (gName 7))
  (tSeq (tIfS (tTest (tOp rEq (tVar 5) (tC (.int 0)))) (tAsg (tCall (sp__law_put K) [] E0 (tCons (tVar 2) (tCons (tVar 4) (tCons (tCall (sp__law_prod K) [] E0 (tCons (tVar 6) (tCons (tIf (tTest (tOp rEq (tOp (rIx K) (tVar 4) (tC (.int 0))) (tC (.str ("disc" : Str))))) (tVar 7) (tTup (tCons (tOp (rIx K) (tVar 7) (tC (.int 1))) (tCons (tOp (rIx K) (tVar 7) (tC (.int 0))) tNil)))) tNil))) tNil)))) (gName 2)) tNext)
  (tIfS (tAnd (tTest (tOp rEq (tVar 5) (tC (.int 1)))) (tAnd (tTest (tOp rEq (tOp (rIx K) (tVar 4) (tC (.int 0))) (tC (.str ("shaft" : Str))))) (tAnd (tTest (tOp (rInD K) (tOp (rIx K) (tVar 4) (tC (.int 1))) (tLst (tCons (tC (.int 0)) (tCons (tVar 3) tNil))))) (tTest (tOp rEq (tCall (sp__law_wind K) [] E0 (tCons (tVar 0) (tCons (tC (.int 2)) tNil))) (tC (.int 0))))))) (tAsg (tCall (sp__law_put K) [] E0 (tCons (tVar 2) (tCons (tVar 4) (tCons (tTup (tCons (tC (.int 0)) (tCons (tC (.int 1)) tNil))) tNil)))) (gName 2)) tNext)))))
  (tRet (tTup (tCons (tVar 2) (tCons (tVar 1) tNil)))))))
theorem pure__law_pair_box (K : PySem.W.Frag) (vs : List V) (H : Hp) (Q : VK) (E : XK) (h : sp__law_pair_box K vs H Q E) : t__law_pair_box K { nx := fun _ H' => Q .non H', rt := Q } (L2.start N__law_pair_box vs) H := body_W h (by decide) fun B w ds hp => by
  obtain ⟨_, e⟩ := hp
  subst e
  unfold t__law_pair_box

  refine st_seq (st_asg (ev_callW rfl (ea_nil ⟨⟨trivial, rfl⟩, fun d ⟨ee, ts, ed, hL⟩ => ?_⟩)))
  subst ed
  have hE : LQ ee ts := ⟨hL.ln, fun x hx => ⟨by have := (hL.sd x hx).1; omega, by have := (hL.sd x hx).2; omega⟩, fun x hx => ⟨by have := (hL.sq x hx).1; omega, by have := (hL.sq x hx).2; omega⟩⟩
  have c8 := hL.ln.c8
  have l2 := hL.ln.len
  have rfx : ∀ p ∈ slotsOf ee.length, SOk ee ts ee ts p := fun ⟨b, i⟩ hp => by
    cases b with
    | true => exact Rat.le_refl
    | false => exact Rat.le_refl
  refine st_seq (st_par (ea_cons (ev_var rfl (ea_cons (ev_cb (ea_cons (ev_op (ev_var rfl (ev_int (rok_ixsT (d := .tuple (ee.map frD)) rfl (ea_nil (co_lenT ?_))))))))))))
  rw [List.length_map]
  refine ea_nil ⟨_, _, rfl, ?_⟩
  refine st_seq (st_forL (ev_callP (ea_cons (ev_var rfl (ea_nil ⟨⟨ee, ts, rfl, c8⟩, fun d ⟨d1, s1, e, ed⟩ => ?_⟩)))))
  obtain ⟨rfl, rfl⟩ := lineD_inj e
  subst ed
  rw [slots_is]
  refine ⟨_, rfl, fun i L2 Γ2 => ∃ (dd ss : List Fr) (s4 s5 s6 s7 : Sl), L2 = [] ∧ Γ2 = [.well w, .d (lineD ee ts), .d (lineD dd ss), .d (.int ((ee.length : Nat) : Int)), s4, s5, s6, s7] ∧ LQ dd ss ∧ dd.length = ee.length ∧ ∀ p ∈ slotsOf ee.length, SOk dd ss ee ts p, ⟨ee, ts, _, _, _, _, rfl, rfl, hE, rfl, rfx⟩, ?_, ?_⟩
  · rintro i d' L2 Γ2 g hi ⟨dd, ss, s4, s5, s6, s7, rfl, rfl, hD, ld, inv⟩
    obtain ⟨⟨b, j⟩, hp, rfl⟩ : ∃ p, (slotsOf ee.length)[i]? = some p ∧ d' = slotP p := map_getG hi
    have pm := List.mem_of_getElem? hp
    have k2 := slot_ok l2 pm
    have k1 : slotOk dd ss b j := slot_ok hD.1.len (by rw [ld]; exact pm)
    obtain ⟨hf, hf0, hfp⟩ := hE.1.held k2
    obtain ⟨hb1, hb2⟩ : (heldS ee ts b j).1 < 64 ∧ (heldS ee ts b j).2 < 64 := by
      cases b with
      | true => exact hL.sd _ (getD_mem k2)
      | false => exact hL.sq _ (getD_mem k2)
    have hv : val (heldS ee ts b j) = if b = true then jv ee j else jv ts j := held_val ..
    obtain ⟨y, ey⟩ : ∃ y, y = heldS ee ts b j := ⟨_, rfl⟩
    rw [← ey] at hf hf0 hfp hb1 hb2 hv
    have y2 := hf.1
    have smy : Sm y := ⟨y2, pow_up (m := 6) (by have : (2 : Nat) ^ 6 = 64 := rfl; omega) (by decide), pow_up (m := 6) (by have : (2 : Nat) ^ 6 = 64 := rfl; omega) (by decide)⟩
    refine st_seq (st_par (ea_cons (ev_callW rfl (ea_cons (ev_int (ea_nil ⟨⟨3, rfl, by decide, by decide⟩, fun d ⟨m', way, em, ed, w0, w1⟩ => ?_⟩))))))
    subst ed
    refine ea_cons (ev_callP (ea_cons (ev_var rfl (ea_cons (ev_var rfl (ea_nil ⟨⟨ee, ts, b, j, rfl, k2⟩, fun d ⟨d1, s1, b1, i1, e, ed⟩ => ?_⟩))))))
    obtain ⟨rfl, rfl, rfl, rfl⟩ := ls_inj e
    rw [← ey] at ed
    subst ed
    refine ea_nil ⟨_, _, rfl, ?_⟩
    refine st_seq (st_asg (ev_callW rfl ?_))
    walk_at "dd"
    refine ⟨⟨_, rfl, by simp, by simp⟩, fun d ⟨xs, ex, hd⟩ => ?_⟩
    cases ex
    obtain ⟨k, rfl, hk⟩ : ∃ k : Fr, d = frD k ∧ k ∈ ([(2, 1), (3, 2), (5, 4), (4, 1)] : List Fr) := by
      have hd2 : d ∈ ([(2, 1), (3, 2), (5, 4), (4, 1)] : List Fr).map frD := hd
      obtain ⟨k, h1, rfl⟩ := List.mem_map.mp hd2
      exact ⟨k, rfl, h1⟩
    have kf : 0 < k.1 ∧ k.1 ≤ 5 ∧ 0 < k.2 ∧ k.2 ≤ 4 ∧ k.2 ≤ k.1 := (by decide : ∀ k ∈ ([(2, 1), (3, 2), (5, 4), (4, 1)] : List Fr), 0 < k.1 ∧ k.1 ≤ 5 ∧ 0 < k.2 ∧ k.2 ≤ 4 ∧ k.2 ≤ k.1) k hk
    obtain ⟨kf1, kf2, kf3, kf4, kf5⟩ := kf
    have small : ∀ z : Int, 0 < z → z ≤ 5 → z.natAbs < 2 ^ 3 := fun z a c => by
      have : (2 : Nat) ^ 3 = 8 := rfl
      omega
    have smk : Sm k := ⟨kf3, pow_up (small _ kf1 kf2) (by decide), pow_up (small _ kf3 (by omega)) (by decide)⟩
    have put := fun kk a1 a2 a3 a4 hk r fr vr r1 r2 => slow_put (b := b) (j := j) (y := y) hD ld k1 hf hf0 (by rw [ld]; exact hfp) hb1 hb2 hv inv (kk := kk) a1 a2 a3 a4 hk (r := r) fr vr r1 r2
    refine st_mid (fun L2 Γ2 => ∃ dd ss : List Fr, L2 = [] ∧ Γ2 = [.well w, .d (lineD ee ts), .d (lineD dd ss), .d (.int ((ee.length : Nat) : Int)), .d (slotP (b, j)), .d (.int way), .d (frD y), .d (frD k)] ∧ LQ dd ss ∧ dd.length = ee.length ∧ ∀ p ∈ slotsOf ee.length, SOk dd ss ee ts p) (st_if (et_test (ev_op (ev_var rfl (ev_int (rok_eqI ⟨_, rfl, fun hb => ?_, fun hb => st_next ⟨dd, ss, rfl, rfl, hD, ld, inv⟩⟩)))))) ?_
    · cases b with
      | true =>
        refine st_asg (ev_callP (ea_cons (ev_var rfl (ea_cons (ev_var rfl (ea_cons (ev_callP (ea_cons (ev_var rfl (ea_cons (ev_if (et_test (ev_op (ev_op (ev_var rfl (ev_int (rok_ixsT (d := .str ("disc" : Str)) rfl (ev_str (rok_eqS ⟨_, rfl, fun _ => ?_, fun hb => absurd (of_decide_eq_false hb) (fun z => z rfl)⟩)))))))))))))))))))
        refine ev_var rfl (ea_nil ⟨⟨y, k, rfl, smy, smk⟩, fun d ⟨x', y', r, e, ed, fr, vr, z1, z2⟩ => ?_⟩)
        obtain ⟨rfl, rfl⟩ := frD2_inj e
        subst ed
        refine ea_nil ⟨⟨dd, ss, true, j, r, rfl, k1⟩, fun d ⟨d1, s1, b1, i1, x1, e, ed⟩ => ?_⟩
        obtain ⟨rfl, rfl, rfl, rfl, rfl⟩ := put_inj e
        subst ed
        obtain ⟨a, b, c⟩ := put k kf1 kf2 kf3 (by omega) (fr_ge kf3 kf5) r fr vr z1 z2
        exact ⟨_, _, rfl, rfl, a, b, c⟩
      | false =>
        refine st_asg (ev_callP (ea_cons (ev_var rfl (ea_cons (ev_var rfl (ea_cons (ev_callP (ea_cons (ev_var rfl (ea_cons (ev_if (et_test (ev_op (ev_op (ev_var rfl (ev_int (rok_ixsT (d := .str ("shaft" : Str)) rfl (ev_str (rok_eqS ⟨_, rfl, fun hb => absurd (of_decide_eq_true hb) (by decide), fun _ => ?_⟩)))))))))))))))))))
        refine ev_tup (ea_cons (ev_op (ev_var rfl (ev_int (rok_ixsT (d := .int k.2) rfl (ea_cons (ev_op (ev_var rfl (ev_int (rok_ixsT (d := .int k.1) rfl (ea_nil ⟨by simp, ?_⟩)))))))))))
        refine ea_nil ⟨⟨y, (k.2, k.1), rfl, smy, kf1, smk.2.2, smk.2.1⟩, fun d ⟨x', y', r, e, ed, fr, vr, z1, z2⟩ => ?_⟩
        obtain ⟨rfl, rfl⟩ := frD2_inj (y := (k.2, k.1)) e
        subst ed
        refine ea_nil ⟨⟨dd, ss, false, j, r, rfl, k1⟩, fun d ⟨d1, s1, b1, i1, x1, e, ed⟩ => ?_⟩
        obtain ⟨rfl, rfl, rfl, rfl, rfl⟩ := put_inj e
        subst ed
        obtain ⟨a, b, c⟩ := put (k.2, k.1) kf3 (by show k.2 ≤ 5; omega) kf1 kf2 (fr_le kf1 kf5) r fr vr z1 z2
        exact ⟨_, _, rfl, rfl, a, b, c⟩
    clear put inv hD k1 ld
    rintro L2 Γ2 ⟨dd, ss, rfl, rfl, hD, ld, inv⟩
    have k1 : slotOk dd ss b j := slot_ok hD.1.len (by rw [ld]; exact pm)
    refine st_if (EvT.mono (kb := fun c => c = true → b = false ∧ (j = 0 ∨ j = ee.length)) ?_ fun c hc => ⟨fun z => ?_, fun _ => st_next ⟨dd, ss, _, _, _, _, rfl, rfl, hD, ld, inv⟩⟩)
    · refine et_and (et_test (ev_op (ev_var rfl (ev_int (rok_eqI ⟨_, rfl, fun hb => ?_, fun hb z => nomatch z⟩)))))
      cases b with
      | true => exact et_and (et_test (ev_op (ev_op (ev_var rfl (ev_int (rok_ixsT (d := .str ("disc" : Str)) rfl (ev_str (rok_eqS ⟨_, rfl, fun hb => absurd (of_decide_eq_true hb) (by decide), fun hb z => nomatch z⟩))))))))
      | false =>
        refine et_and (et_test (ev_op (ev_op (ev_var rfl (ev_int (rok_ixsT (d := .str ("shaft" : Str)) rfl (ev_str (rok_eqS ⟨_, rfl, fun _ => ?_, fun hb => absurd (of_decide_eq_false hb) (fun z => z rfl)⟩))))))))
        have oz : ∀ x ∈ [PyData.int 0, .int ((ee.length : Nat) : Int)], Ok 0 x := fun x hx => by
          simp only [List.mem_cons, List.not_mem_nil, or_false] at hx
          have q6 : (2 : Nat) ^ 6 = 64 := rfl
          rcases hx with rfl | rfl
          · show (0 : Int).natAbs < 2 ^ 4000
            exact Nat.pow_pos (by decide)
          · show ((ee.length : Nat) : Int).natAbs < 2 ^ 4000
            exact pow_up (m := 6) (by omega) (by decide)
        have sh := ok_list oz (by decide)
        refine et_and (et_test (ev_op (ev_op (ev_var rfl (ev_int (rok_ixsT (d := .int ((j : Nat) : Int)) rfl (ev_lst (ea_cons (ev_int (ea_cons (ev_var rfl (ea_nil ⟨by simp, rok_inD (by simp only [PyData.hasDict]) sh.2 (by simp [SeqAt.shaped, PyData.canLay0, PyData.depth]) sh.1 ⟨_, rfl, fun hb => ?_, fun hb z => nomatch z⟩⟩))))))))))))
        have hj : j = 0 ∨ j = ee.length := by
          simp [PyData.eqv] at hb
          omega
        refine et_test (ev_op (ev_callW rfl (ea_cons (ev_int (ea_nil ⟨⟨2, rfl, by decide, by decide⟩, fun d ⟨m', q, em, ed, q0, q1⟩ => ?_⟩)))))
        subst ed
        exact ev_int (rok_eqI ⟨_, rfl, fun _ => ⟨rfl, hj⟩⟩)
    · obtain ⟨rfl, hj⟩ := hc z
      refine st_asg (ev_callP (ea_cons (ev_var rfl (ea_cons (ev_var rfl (ea_cons (ev_tup (ea_cons (ev_int (ea_cons (ev_int (ea_nil ⟨by simp, ea_nil ⟨⟨dd, ss, false, j, (0, 1), rfl, k1⟩, fun d ⟨d1, s1, b1, i1, x1, e, ed⟩ => ?_⟩⟩))))))))))))
      obtain ⟨rfl, rfl, rfl, rfl, rfl⟩ := put_inj (x := (0, 1)) e
      subst ed
      have vn : 0 ≤ val y := ((val_pos y2).2.1).mpr hf0
      refine ⟨_, _, _, _, _, _, rfl, rfl, put_lq hD ⟨by decide, by decide⟩ (by decide) (by decide) (by decide) (fun q => ?_), (put_len2 ..).trans ld, put_sok k1 inv ?_⟩
      · rcases q with q | q
        · cases q
        · omega
      · show val (0, 1) ≤ jv ts j
        have hv : val y = jv ts j := hv
        rw [← hv]
        exact Rat.le_trans (by decide +kernel) vn
  · rintro L2 Γ2 ⟨dd, ss, s4, s5, s6, s7, rfl, rfl, hD, ld, inv⟩
    have nf : NF dd ss ee ts := (nf_slots ld hD.1.len).mpr (by rw [ld]; exact inv)
    exact st_ret (ev_tup (ea_cons (ev_var rfl (ea_cons (ev_var rfl (ea_nil ⟨by simp, dd, ss, ee, ts, rfl, hD, hE, nf⟩))))))
theorem ok__law_pair_box (T : Tx K mg) : FnOk P w K mg base CX0 6 T.a__law_pair_box T.d__law_pair_box p__law_pair_box (sp__law_pair_box K) := by
  refine T.F__law_pair_box.ok sc__law_pair_box (fun vs H Q E h => len__law_pair_box K vs H Q E h) (fun cdv A outer s H vs Q E hr h => ?_)
  have hu := hr.units
  have hu5 := Nat.lt_of_le_of_lt (Nat.le_trans (Nat.add_le_add_left (show 65 ≤ 200 by decide) _) (Nat.add_le_add_right (Nat.le_add_right _ _) 200)) hr.un
  exact ⟨t__law_pair_box K, (pss_cons (ps_set (i := 1) sc__law_pair_box.nd rfl (Or.inl rfl) (pe_call (ok__law_line T) (hr.mono (by decide)) rfl T.g__law_line T.F__law_line.kp (b__law_line T) .nil pass0 (pa_cons (pv 0) pa_nil)))
  (pss_cons (ps_par (by rfl) sc__law_pair_box.nd rfl rfl (by decide) rfl rfl (pa_cons (pv 1) (pa_cons (pe_callB call_len_seq (by rfl) T.n_len (by decide +kernel) (pa_cons (pe_ix ix_seq (pv 1) pe_int (fun _ _ => rfl)) pa_nil)) pa_nil)) (by rfl))
  (pss_cons (ps_for PassesOwn.never rfl (pi_list (pe_call (ok__law_slots T) (hr.mono (by decide)) rfl T.g__law_slots T.F__law_slots.kp (b__law_slots T) .nil pass0 (pa_cons (pv 1) pa_nil))) (pg_name (i := 4) sc__law_pair_box.nd rfl (Or.inl rfl)) (pss_cons (ps_par (by rfl) sc__law_pair_box.nd rfl rfl (by decide) rfl rfl (pa_cons (pe_call (ok__law_wind T) (hr.mono (by decide)) rfl T.g__law_wind T.F__law_wind.kp (b__law_wind T) .nil pass0 (pa_cons (pv 0) (pa_cons pe_int pa_nil))) (pa_cons (pe_call (ok__law_held T) (hr.mono (by decide)) rfl T.g__law_held T.F__law_held.kp (b__law_held T) .nil pass0 (pa_cons (pv 1) (pa_cons (pv 4) pa_nil))) pa_nil)) (by rfl))
  (pss_cons (ps_set (i := 7) sc__law_pair_box.nd rfl (Or.inl rfl) (pe_call (ok__law_any T) (hr.mono (by decide)) rfl T.g__law_any T.F__law_any.kp (b__law_any T) .nil pass0 (pa_cons (pv 0) (pa_cons (pe_lst (pa_cons (pe_tup (pa_cons pe_int (pa_cons pe_int pa_nil))) (pa_cons (pe_tup (pa_cons pe_int (pa_cons pe_int pa_nil))) (pa_cons (pe_tup (pa_cons pe_int (pa_cons pe_int pa_nil))) (pa_cons (pe_tup (pa_cons pe_int (pa_cons pe_int pa_nil))) pa_nil))))) pa_nil))))
  (pss_cons (ps_if (pt_cmpR op_eq (pv 5) pe_int (nomark _)) (pss_one (ps_set (i := 2) sc__law_pair_box.nd rfl (Or.inl rfl) (pe_call (ok__law_put T) (hr.mono (by decide)) rfl T.g__law_put T.F__law_put.kp (b__law_put T) .nil pass0 (pa_cons (pv 2) (pa_cons (pv 4) (pa_cons (pe_call (ok__law_prod T) (hr.mono (by decide)) rfl T.g__law_prod T.F__law_prod.kp (b__law_prod T) .nil pass0 (pa_cons (pv 6) (pa_cons (pe_ifExp (pt_cmpR op_eq (pe_ix ix_seq (pv 4) pe_int (fun _ _ => rfl)) pe_str (nomark _)) (pv 7) (pe_tup (pa_cons (pe_ix ix_seq (pv 7) pe_int (fun _ _ => rfl)) (pa_cons (pe_ix ix_seq (pv 7) pe_int (fun _ _ => rfl)) pa_nil)))) pa_nil))) pa_nil)))))) pss_nil)
  (pss_one (ps_if (PW.pt (pw_and (pt_cmpR op_eq (pv 5) pe_int (nomark _)) (pw_and (pt_cmpR op_eq (pe_ix ix_seq (pv 4) pe_int (fun _ _ => rfl)) pe_str (nomark _)) (pw_and (pt_cmpR (op_inD hu5) (pe_ix ix_seq (pv 4) pe_int (fun _ _ => rfl)) (pe_lst (pa_cons pe_int (pa_cons (pv 3) pa_nil))) (by rfl)) (pw_and1 (pt_cmpR op_eq (pe_call (ok__law_wind T) (hr.mono (by decide)) rfl T.g__law_wind T.F__law_wind.kp (b__law_wind T) .nil pass0 (pa_cons (pv 0) (pa_cons pe_int pa_nil))) pe_int (nomark _))))))) (pss_one (ps_set (i := 2) sc__law_pair_box.nd rfl (Or.inl rfl) (pe_call (ok__law_put T) (hr.mono (by decide)) rfl T.g__law_put T.F__law_put.kp (b__law_put T) .nil pass0 (pa_cons (pv 2) (pa_cons (pv 4) (pa_cons (pe_tup (pa_cons pe_int (pa_cons pe_int pa_nil))) pa_nil)))))) pss_nil))))))
  (pss_one (ps_ret (pe_tup (pa_cons (pv 2) (pa_cons (pv 1) pa_nil)))))))), pure__law_pair_box K vs H Q E h⟩
/-! ### _law_within -/
theorem gap_sz {x y r : Fr} (a : x.1.natAbs < 2 ^ 9) (b : x.2.natAbs < 2 ^ 9) (c : y.1.natAbs < 2 ^ 9) (d : y.2.natAbs < 2 ^ 9) (h : r.1.natAbs ≤ (y.1 * x.2 - x.1 * y.2).natAbs) (k : r.2.natAbs ≤ (y.2 * x.2).natAbs) : r.1.natAbs < 2 ^ 19 ∧ r.2.natAbs < 2 ^ 18 ∧ True := by
  have h1 := natAbs_mul_lt c b
  have h2 := natAbs_mul_lt a d
  have h3 := natAbs_mul_lt d b
  have q18 : (2 : Nat) ^ (9 + 9) = 262144 := rfl
  have q18' : (2 : Nat) ^ 18 = 262144 := rfl
  have q19 : (2 : Nat) ^ 19 = 524288 := rfl
  exact ⟨by omega, by omega, trivial⟩
theorem prod_sz {r k q : Fr} (a : r.1.natAbs < 2 ^ 19) (b : r.2.natAbs < 2 ^ 18) (c : k.1.natAbs < 2 ^ 2) (d : k.2.natAbs < 2 ^ 2) (h : q.1.natAbs ≤ (r.1 * k.1).natAbs) (l : q.2.natAbs ≤ (r.2 * k.2).natAbs) : q.1.natAbs < 2 ^ 21 ∧ q.2.natAbs < 2 ^ 20 := ⟨Nat.lt_of_le_of_lt h (natAbs_mul_lt a c), Nat.lt_of_le_of_lt l (natAbs_mul_lt b d)⟩
theorem sum_sz {x q t : Fr} (a : x.1.natAbs < 2 ^ 9) (b : x.2.natAbs < 2 ^ 9) (c : q.1.natAbs < 2 ^ 21) (d : q.2.natAbs < 2 ^ 20) (h : t.1.natAbs ≤ (x.1 * q.2 + q.1 * x.2).natAbs) (k : t.2.natAbs ≤ (x.2 * q.2).natAbs) : t.1.natAbs < 18446744073709551616 ∧ t.2.natAbs < 18446744073709551616 := by
  have h1 := natAbs_mul_lt a d
  have h2 := natAbs_mul_lt c b
  have h3 := natAbs_mul_lt b d
  have q29 : (2 : Nat) ^ (9 + 20) = 536870912 := rfl
  have q30 : (2 : Nat) ^ (21 + 9) = 1073741824 := rfl
  exact ⟨by omega, by omega⟩

def pre__law_within : List PyData → Prop := fun ds => ∃ dd ss ee ts : List Fr, ds = [.tuple [lineD dd ss, lineD ee ts]] ∧ LQ dd ss ∧ LQ ee ts ∧ NF dd ss ee ts
def post__law_within : List PyData → PyData → Prop := fun ds d => ∃ dd ss ee ts ff us : List Fr, ds = [.tuple [lineD dd ss, lineD ee ts]] ∧ d = lineD ff us ∧ LN ff us ∧ ff.length = dd.length
abbrev sp__law_within (K : PySem.W.Frag) : Sp := SpW K pre__law_within post__law_within
theorem len__law_within (K : PySem.W.Frag) (vs : List V) (H : Hp) (Q : VK) (E : XK) (h : sp__law_within K vs H Q E) : vs.length = p__law_within.length := len_W (n := 1) h fun ds hp => by
  obtain ⟨dd, ss, ee, ts, e, h1, h2, hb⟩ := hp
  rw [e]; rfl
def t__law_within (K : PySem.W.Frag) : TS :=
  (tSeq (tAsg (tOp (rIx K) (tVar 1) (tC (.int 0))) (gName 2))
  (tSeq (tFor (iList K (tCall (sp__law_slots K) [] E0 (tCons (tVar 2) tNil))) (gName 3) (tSeq (tPar 4 5 (tCons (tCall (sp__law_held K) [] E0 (tCons (tOp (rIx K) (tVar 1) (tC (.int 0))) (tCons (tVar 3) tNil))) (tCons (tCall (sp__law_held K) [] E0 (tCons (tOp (rIx K) (tVar 1) (tC (.int 1))) (tCons (tVar 3) tNil))) tNil)))
  (tSeq (tAsg (tCall (sp__law_any K) [] E0 (tCons (tVar 0) (tCons (tLst (tCons (tTup (tCons (tC (.int 0)) (tCons (tC (.int 1)) tNil))) (tCons (tTup (tCons (tC (.int 1)) (tCons (tC (.int 1)) tNil))) (tCons (tTup (tCons (tC (.int 1)) (tCons (tC (.int 2)) tNil))) (tCons (tTup (tCons (tC (.int 1)) (tCons (tC (.int 3)) tNil))) (tCons (tTup (tCons (tC (.int 2)) (tCons (tC (.int 3)) tNil))) tNil)))))) tNil))) (gName 6))
  (tAsg (tCall (sp__law_put K) [] E0 (tCons (tVar 2) (tCons (tVar 3) (tCons (tCall (sp__law_sum K) [] E0 (tCons (tVar 4) (tCons (tCall (sp__law_prod K) [] E0 (tCons (tCall (sp__law_gap K) [] E0 (tCons (tVar 5) (tCons (tVar 4) tNil))) (tCons (tVar 6) tNil))) tNil))) tNil)))) (gName 2)))))
  (tRet (tVar 2))))
theorem pure__law_within (K : PySem.W.Frag) (vs : List V) (H : Hp) (Q : VK) (E : XK) (h : sp__law_within K vs H Q E) : t__law_within K { nx := fun _ H' => Q .non H', rt := Q } (L2.start N__law_within vs) H := body_W h (by decide) fun B w ds hp => by
  obtain ⟨dd, ss, ee, ts, e, h1, h2, hb⟩ := hp
  subst e
  unfold t__law_within

  have c8 := h1.1.c8
  have l1 := h1.1.len
  have l2 := h2.1.len
  have le := hb.1
  refine st_seq (st_asg (ev_op (ev_var rfl (ev_int (rok_ixsT (d := lineD dd ss) rfl ?_)))))
  refine st_seq (st_forL (ev_callP (ea_cons (ev_var rfl (ea_nil ⟨⟨dd, ss, rfl, c8⟩, fun d ⟨d1, s1, e, ed⟩ => ?_⟩)))))
  obtain ⟨rfl, rfl⟩ := lineD_inj e
  subst ed
  rw [slots_is]
  refine ⟨_, rfl, fun i L2 Γ2 => ∃ (ff us : List Fr) (s3 s4 s5 s6 : Sl), L2 = [] ∧ Γ2 = [.well w, .d (.tuple [lineD dd ss, lineD ee ts]), .d (lineD ff us), s3, s4, s5, s6] ∧ LN ff us ∧ ff.length = dd.length, ⟨dd, ss, _, _, _, _, rfl, rfl, h1.1, rfl⟩, ?_, ?_⟩
  · rintro i d' L2 Γ2 g hi ⟨ff, us, s3, s4, s5, s6, rfl, rfl, hF, lf⟩
    obtain ⟨⟨b, j⟩, hp, rfl⟩ : ∃ p, (slotsOf dd.length)[i]? = some p ∧ d' = slotP p := map_getG hi
    have pm := List.mem_of_getElem? hp
    have k1 := slot_ok l1 pm
    have k2 : slotOk ee ts b j := slot_ok l2 (by rw [← le]; exact pm)
    have k3 : slotOk ff us b j := slot_ok hF.len (by rw [lf]; exact pm)
    have hx := h1.1.held k1
    have hy := h2.1.held k2
    have bx := h1.held k1
    have by' := h2.held k2
    refine st_seq (st_par (ea_cons (ev_callP (ea_cons (ev_op (ev_var rfl (ev_int (rok_ixsT (d := lineD dd ss) rfl (ea_cons (ev_var rfl (ea_nil ⟨⟨dd, ss, b, j, rfl, k1⟩, fun d ⟨d1, s1, b1, i1, e, ed⟩ => ?_⟩)))))))))))
    obtain ⟨rfl, rfl, rfl, rfl⟩ := ls_inj e
    refine ea_cons (ev_callP (ea_cons (ev_op (ev_var rfl (ev_int (rok_ixsT (d := lineD ee ts) rfl (ea_cons (ev_var rfl (ea_nil ⟨⟨ee, ts, b, j, rfl, k2⟩, fun d2 ⟨d1, s1, b1, i1, e, ed2⟩ => ?_⟩)))))))))
    obtain ⟨rfl, rfl, rfl, rfl⟩ := ls_inj e
    generalize heldS dd ss b j = x at hx bx ed
    generalize heldS ee ts b j = y at hy by' ed2
    subst ed
    subst ed2
    refine ea_nil ⟨_, _, rfl, ?_⟩
    refine st_seq (st_asg (ev_callW rfl ?_))
    walk_at "dd"
    refine ⟨⟨_, rfl, by simp, by simp⟩, fun d ⟨xs, ex, hd⟩ => ?_⟩
    cases ex
    obtain ⟨k, rfl, hk⟩ : ∃ k : Fr, d = frD k ∧ k ∈ ([(0, 1), (1, 1), (1, 2), (1, 3), (2, 3)] : List Fr) := by
      have hd2 : d ∈ ([(0, 1), (1, 1), (1, 2), (1, 3), (2, 3)] : List Fr).map frD := hd
      obtain ⟨k, h1, rfl⟩ := List.mem_map.mp hd2
      exact ⟨k, rfl, h1⟩
    obtain ⟨kf1, kf2, kf3⟩ : k.1.natAbs < 2 ^ 2 ∧ 0 < k.2 ∧ k.2.natAbs < 2 ^ 2 := (by decide : ∀ k ∈ ([(0, 1), (1, 1), (1, 2), (1, 3), (2, 3)] : List Fr), k.1.natAbs < 2 ^ 2 ∧ 0 < k.2 ∧ k.2.natAbs < 2 ^ 2) k hk
    have smx : Sm x := ⟨hx.1.1, pow_up bx.1 (by decide), pow_up bx.2 (by decide)⟩
    have smy : Sm y := ⟨hy.1.1, pow_up by'.1 (by decide), pow_up by'.2 (by decide)⟩
    have smk : Sm k := ⟨kf2, pow_up kf1 (by decide), pow_up kf3 (by decide)⟩
    refine st_asg (ev_callP (ea_cons (ev_var rfl (ea_cons (ev_var rfl (ea_cons (ev_callP (ea_cons (ev_var rfl (ea_cons (ev_callP (ea_cons (ev_callP (ea_cons (ev_var rfl (ea_cons (ev_var rfl (ea_nil ⟨⟨y, x, rfl, smy, smx⟩, fun d ⟨x', y', r, e, ed, fr, vr, z1, z2⟩ => ?_⟩))))))))))))))))))
    obtain ⟨rfl, rfl⟩ := frD2_inj e
    subst ed
    obtain ⟨rs1, rs2, rs3⟩ := gap_sz bx.1 bx.2 by'.1 by'.2 z1 z2
    refine ea_cons (ev_var rfl (ea_nil ⟨⟨r, k, rfl, ⟨fr.1, pow_up rs1 (by decide), pow_up rs2 (by decide)⟩, smk⟩, fun d ⟨x', y', q, e, ed, fq, vq, z3, z4⟩ => ?_⟩))
    obtain ⟨rfl, rfl⟩ := frD2_inj e
    subst ed
    obtain ⟨qs1, qs2⟩ := prod_sz rs1 rs2 kf1 kf3 z3 z4
    refine ea_nil ⟨⟨x, q, rfl, smx, fq.1, pow_up qs1 (by decide), pow_up qs2 (by decide)⟩, fun d ⟨x', y', t, e, ed, ft, vt, z5, z6⟩ => ?_⟩
    obtain ⟨rfl, rfl⟩ := frD2_inj e
    subst ed
    obtain ⟨ts1, ts2⟩ := sum_sz bx.1 bx.2 qs1 qs2 z5 z6
    refine ea_nil ⟨⟨ff, us, b, j, t, rfl, k3⟩, fun d ⟨d1, s1, b1, i1, x1, e, ed⟩ => ?_⟩
    obtain ⟨rfl, rfl, rfl, rfl, rfl⟩ := put_inj e
    subst ed
    have vk : val k = 0 ∨ val k = 1 ∨ val k = 1 / 2 ∨ val k = 1 / 3 ∨ val k = 2 / 3 := by
      simp only [List.mem_cons, List.not_mem_nil, or_false] at hk
      rcases hk with rfl | rfl | rfl | rfl | rfl
      · exact .inl (by decide +kernel)
      · exact .inr (.inl (by decide +kernel))
      · exact .inr (.inr (.inl (by decide +kernel)))
      · exact .inr (.inr (.inr (.inl (by decide +kernel))))
      · exact .inr (.inr (.inr (.inr (by decide +kernel))))
    obtain ⟨pp1, pp2⟩ := part_pos (a := val x) (b := val y) vk
    have vt2 : val t = val x + (val y - val x) * val k := by rw [vt, vq, vr]
    have t0 := ft.1
    have t1 : 0 ≤ t.1 := ((val_pos t0).2.1).mp (by rw [vt2]; exact pp2 (((val_pos hx.1.1).2.1).mpr hx.2.1) (((val_pos hy.1.1).2.1).mpr hy.2.1))
    refine ⟨_, _, _, _, _, _, rfl, rfl, put_ln2 hF ft t1 (by omega) (by omega) (fun z => ?_), (put_len2 ..).trans lf⟩
    rw [lf] at z
    exact ((val_pos t0).1).mp (by rw [vt2]; exact pp1 (((val_pos hx.1.1).1).mpr (hx.2.2 z)) (((val_pos hy.1.1).1).mpr (hy.2.2 (by rw [← le]; exact z))))
  · rintro L2 Γ2 ⟨ff, us, s3, s4, s5, s6, rfl, rfl, hF, lf⟩
    exact st_ret (ev_var rfl ⟨dd, ss, ee, ts, ff, us, rfl, rfl, hF, lf⟩)
theorem ok__law_within (T : Tx K mg) : FnOk P w K mg base CX0 4 T.a__law_within T.d__law_within p__law_within (sp__law_within K) := by
  refine T.F__law_within.ok sc__law_within (fun vs H Q E h => len__law_within K vs H Q E h) (fun cdv A outer s H vs Q E hr h => ?_)
  exact ⟨t__law_within K, (pss_cons (ps_set (i := 2) sc__law_within.nd rfl (Or.inl rfl) (pe_ix ix_seq (pv 1) pe_int (fun _ _ => rfl)))
  (pss_cons (ps_for PassesOwn.never rfl (pi_list (pe_call (ok__law_slots T) (hr.mono (by decide)) rfl T.g__law_slots T.F__law_slots.kp (b__law_slots T) .nil pass0 (pa_cons (pv 2) pa_nil))) (pg_name (i := 3) sc__law_within.nd rfl (Or.inl rfl)) (pss_cons (ps_par (by rfl) sc__law_within.nd rfl rfl (by decide) rfl rfl (pa_cons (pe_call (ok__law_held T) (hr.mono (by decide)) rfl T.g__law_held T.F__law_held.kp (b__law_held T) .nil pass0 (pa_cons (pe_ix ix_seq (pv 1) pe_int (fun _ _ => rfl)) (pa_cons (pv 3) pa_nil))) (pa_cons (pe_call (ok__law_held T) (hr.mono (by decide)) rfl T.g__law_held T.F__law_held.kp (b__law_held T) .nil pass0 (pa_cons (pe_ix ix_seq (pv 1) pe_int (fun _ _ => rfl)) (pa_cons (pv 3) pa_nil))) pa_nil)) (by rfl))
  (pss_cons (ps_set (i := 6) sc__law_within.nd rfl (Or.inl rfl) (pe_call (ok__law_any T) (hr.mono (by decide)) rfl T.g__law_any T.F__law_any.kp (b__law_any T) .nil pass0 (pa_cons (pv 0) (pa_cons (pe_lst (pa_cons (pe_tup (pa_cons pe_int (pa_cons pe_int pa_nil))) (pa_cons (pe_tup (pa_cons pe_int (pa_cons pe_int pa_nil))) (pa_cons (pe_tup (pa_cons pe_int (pa_cons pe_int pa_nil))) (pa_cons (pe_tup (pa_cons pe_int (pa_cons pe_int pa_nil))) (pa_cons (pe_tup (pa_cons pe_int (pa_cons pe_int pa_nil))) pa_nil)))))) pa_nil))))
  (pss_one (ps_set (i := 2) sc__law_within.nd rfl (Or.inl rfl) (pe_call (ok__law_put T) (hr.mono (by decide)) rfl T.g__law_put T.F__law_put.kp (b__law_put T) .nil pass0 (pa_cons (pv 2) (pa_cons (pv 3) (pa_cons (pe_call (ok__law_sum T) (hr.mono (by decide)) rfl T.g__law_sum T.F__law_sum.kp (b__law_sum T) .nil pass0 (pa_cons (pv 4) (pa_cons (pe_call (ok__law_prod T) (hr.mono (by decide)) rfl T.g__law_prod T.F__law_prod.kp (b__law_prod T) .nil pass0 (pa_cons (pe_call (ok__law_gap T) (hr.mono (by decide)) rfl T.g__law_gap T.F__law_gap.kp (b__law_gap T) .nil pass0 (pa_cons (pv 5) (pa_cons (pv 4) pa_nil))) (pa_cons (pv 6) pa_nil))) pa_nil))) pa_nil)))))))))
  (pss_one (ps_ret (pv 2))))), pure__law_within K vs H Q E h⟩
/-! ### _law_is_within -/
theorem rsgn_small (x : Rat) : -2 ^ 64 < rsgn x ∧ rsgn x < 2 ^ 64 := by
  unfold rsgn
  split
  · decide
  · split <;> decide

def pre__law_is_within : List PyData → Prop := fun ds => ∃ dd ss ee ts ff us : List Fr, ds = [.tuple [lineD dd ss, lineD ee ts], lineD ff us] ∧ LB dd ss ∧ LB ee ts ∧ NF dd ss ee ts ∧ LB ff us
def post__law_is_within : List PyData → PyData → Prop := fun ds d => ∃ (dd ss ee ts ff us : List Fr) (b : Bool), ds = [.tuple [lineD dd ss, lineD ee ts], lineD ff us] ∧ d = .bool b ∧ (b = true ↔ NF dd ss ff us ∧ NF ff us ee ts)
abbrev sp__law_is_within (K : PySem.W.Frag) : Sp := SpP K pre__law_is_within post__law_is_within
theorem len__law_is_within (K : PySem.W.Frag) (vs : List V) (H : Hp) (Q : VK) (E : XK) (h : sp__law_is_within K vs H Q E) : vs.length = p__law_is_within.length := len_P (n := 2) h fun ds hp => by
  obtain ⟨dd, ss, ee, ts, ff, us, e, h1, h2, hb, h3⟩ := hp
  rw [e]; rfl
def t__law_is_within (K : PySem.W.Frag) : TS :=
  (tSeq (tIfS (tTest (tOp rNe (tCB (rLenQ K) (tCons (tOp (rIx K) (tVar 1) (tC (.int 0))) tNil)) (tCB (rLenQ K) (tCons (tOp (rIx K) (tOp (rIx K) (tVar 0) (tC (.int 0))) (tC (.int 0))) tNil)))) (tRet (tC (.bl false))) tNext)
  (tSeq (tFor (iList K (tCall (sp__law_slots K) [] E0 (tCons (tVar 1) tNil))) (gName 2) (tSeq (tPar3 3 4 5 (tCons (tCall (sp__law_held K) [] E0 (tCons (tVar 1) (tCons (tVar 2) tNil))) (tCons (tCall (sp__law_held K) [] E0 (tCons (tOp (rIx K) (tVar 0) (tC (.int 0))) (tCons (tVar 2) tNil))) (tCons (tCall (sp__law_held K) [] E0 (tCons (tOp (rIx K) (tVar 0) (tC (.int 1))) (tCons (tVar 2) tNil))) tNil))))
  (tIfS (tTest (tOp (rI0 fun i j => .bl (decide (j < i))) (tOp (rMulA K) (tCall (sp__law_beside K) [] E0 (tCons (tVar 3) (tCons (tVar 4) tNil))) (tCall (sp__law_beside K) [] E0 (tCons (tVar 3) (tCons (tVar 5) tNil)))) (tC (.int 0)))) (tRet (tC (.bl false))) tNext)))
  (tRet (tC (.bl true)))))
theorem pure__law_is_within (K : PySem.W.Frag) (vs : List V) (H : Hp) (Q : VK) (E : XK) (h : sp__law_is_within K vs H Q E) : t__law_is_within K { nx := fun _ H' => Q .non H', rt := Q } (L2.start N__law_is_within vs) H := body_P h fun B ds hW hp => by
  obtain ⟨dd, ss, ee, ts, ff, us, e, h1, h2, hb, h3⟩ := hp
  subst e
  unfold t__law_is_within

  have c8 := h3.c8
  have l1 := h1.len
  have l2 := h2.len
  have l3 := h3.len
  refine st_seq (st_if (et_test (ev_op (ev_cb (ea_cons (ev_op (ev_var rfl (ev_int (rok_ixsT (d := .tuple (ff.map frD)) rfl (ea_nil (co_lenT (ev_cb (ea_cons (ev_op (ev_op (ev_var rfl (ev_int (rok_ixsT (d := lineD dd ss) rfl (ev_int (rok_ixsT (d := .tuple (dd.map frD)) rfl (ea_nil (co_lenT (rok_neI ⟨_, rfl, fun hb => ?_, fun hb => ?_⟩)))))))))))))))))))))))
  · rw [List.length_map, List.length_map] at hb
    have hb : ¬ ((ff.length : Int) = (dd.length : Int)) := by simpa using hb
    refine st_ret (ev_bl ⟨dd, ss, ee, ts, ff, us, false, rfl, rfl, (fun z => nomatch z), fun q => ?_⟩)
    exact (hb (by rw [q.1.1])).elim
  rw [List.length_map, List.length_map] at hb
  have hb : ((ff.length : Int) = (dd.length : Int)) := by simpa using hb
  rename_i hbx
  have le := (by assumption : NF dd ss ee ts).1
  have hn : ∀ p ∈ slotsOf ff.length, SOk dd ss ee ts p := by
    rw [show ff.length = dd.length by omega]
    exact (nf_slots le l1).mp (by assumption)
  have both : (NF dd ss ff us ∧ NF ff us ee ts) ↔ ∀ p ∈ slotsOf ff.length, SOk dd ss ff us p ∧ SOk ff us ee ts p := by
    rw [nf_slots (show dd.length = ff.length by omega) l1, nf_slots (show ff.length = ee.length by omega) l3, show dd.length = ff.length by omega]
    exact ⟨fun q p hp => ⟨q.1 p hp, q.2 p hp⟩, fun q => ⟨fun p hp => (q p hp).1, fun p hp => (q p hp).2⟩⟩
  refine st_next (st_seq (st_forL (ev_callP (ea_cons (ev_var rfl (ea_nil ⟨⟨ff, us, rfl, c8⟩, fun d ⟨d1, s1, e, ed⟩ => ?_⟩))))))
  obtain ⟨rfl, rfl⟩ := lineD_inj e
  subst ed
  rw [slots_is]
  refine ⟨_, rfl, fun i L2 Γ2 => ∃ s2 s3 s4 s5 : Sl, L2 = [] ∧ Γ2 = [.d (.tuple [lineD dd ss, lineD ee ts]), .d (lineD ff us), s2, s3, s4, s5] ∧ ∀ p ∈ (slotsOf ff.length).take i, SOk dd ss ff us p ∧ SOk ff us ee ts p, ⟨_, _, _, _, rfl, rfl, fun p hp => by cases hp⟩, ?_, ?_⟩
  · rintro i d' L2 Γ2 g hi ⟨s2, s3, s4, s5, rfl, rfl, inv⟩
    obtain ⟨⟨b, j⟩, hp, rfl⟩ : ∃ p, (slotsOf ff.length)[i]? = some p ∧ d' = slotP p := map_getG hi
    have pm := List.mem_of_getElem? hp
    have k3 := slot_ok l3 pm
    have k1 : slotOk dd ss b j := slot_ok l1 (by rw [show dd.length = ff.length by omega]; exact pm)
    have k2 : slotOk ee ts b j := slot_ok l2 (by rw [show ee.length = ff.length by omega]; exact pm)
    refine st_seq (st_par3 (ea_cons (ev_callP (ea_cons (ev_var rfl (ea_cons (ev_var rfl (ea_nil ⟨⟨ff, us, b, j, rfl, k3⟩, fun d ⟨d1, s1, b1, i1, e, ed⟩ => ?_⟩))))))))
    obtain ⟨rfl, rfl, rfl, rfl⟩ := ls_inj e
    subst ed
    refine ea_cons (ev_callP (ea_cons (ev_op (ev_var rfl (ev_int (rok_ixsT (d := lineD dd ss) rfl (ea_cons (ev_var rfl (ea_nil ⟨⟨dd, ss, b, j, rfl, k1⟩, fun d ⟨d1, s1, b1, i1, e, ed⟩ => ?_⟩)))))))))
    obtain ⟨rfl, rfl, rfl, rfl⟩ := ls_inj e
    subst ed
    refine ea_cons (ev_callP (ea_cons (ev_op (ev_var rfl (ev_int (rok_ixsT (d := lineD ee ts) rfl (ea_cons (ev_var rfl (ea_nil ⟨⟨ee, ts, b, j, rfl, k2⟩, fun d ⟨d1, s1, b1, i1, e, ed⟩ => ?_⟩)))))))))
    obtain ⟨rfl, rfl, rfl, rfl⟩ := ls_inj e
    subst ed
    refine ea_nil ⟨_, _, _, rfl, ?_⟩
    refine st_if (et_test (ev_op (ev_op (ev_callP (ea_cons (ev_var rfl (ea_cons (ev_var rfl (ea_nil ⟨⟨_, _, rfl, held_sm h3 k3, held_sm h1 k1⟩, fun d ⟨x', y', e, ed⟩ => ?_⟩)))))))))
    obtain ⟨rfl, rfl⟩ := frD2_inj e
    subst ed
    refine ev_callP (ea_cons (ev_var rfl (ea_cons (ev_var rfl (ea_nil ⟨⟨_, _, rfl, held_sm h3 k3, held_sm h2 k2⟩, fun d ⟨x', y', e, ed⟩ => ?_⟩)))))
    obtain ⟨rfl, rfl⟩ := frD2_inj e
    subst ed
    have tw := sok_two (ff := ff) (us := us) (hn _ pm)
    refine ro_mul (.inl (rsgn_small _)) (ev_int (rok_b0 ⟨_, rfl, fun hb => ?_, fun hb => ?_⟩))
    · have hb := of_decide_eq_true hb
      refine st_ret (ev_bl ⟨dd, ss, ee, ts, ff, us, false, rfl, rfl, (fun z => nomatch z), fun q => ?_⟩)
      exact absurd hb (tw.mpr (both.mp q _ pm))
    · have hb := of_decide_eq_false hb
      exact st_next ⟨_, _, _, _, rfl, rfl, take_step hp inv (tw.mp hb)⟩
  · rintro L2 Γ2 ⟨s2, s3, s4, s5, rfl, rfl, inv⟩
    rw [List.length_map, List.take_length] at inv
    exact st_ret (ev_bl ⟨dd, ss, ee, ts, ff, us, true, rfl, rfl, (fun _ => both.mpr inv), (fun _ => rfl)⟩)
theorem ok__law_is_within (T : Tx K mg) : FnOk P w K mg base CX0 3 T.a__law_is_within T.d__law_is_within p__law_is_within (sp__law_is_within K) := by
  refine T.F__law_is_within.ok sc__law_is_within (fun vs H Q E h => len__law_is_within K vs H Q E h) (fun cdv A outer s H vs Q E hr h => ?_)
  exact ⟨t__law_is_within K, (pss_cons (ps_if (pt_cmpR op_ne (pe_callB call_len_seq (by rfl) T.n_len (by decide +kernel) (pa_cons (pe_ix ix_seq (pv 1) pe_int (fun _ _ => rfl)) pa_nil)) (pe_callB call_len_seq (by rfl) T.n_len (by decide +kernel) (pa_cons (pe_ix ix_seq (pe_ix ix_seq (pv 0) pe_int (fun _ _ => rfl)) pe_int (fun _ _ => rfl)) pa_nil)) (nomark _)) (pss_one (ps_ret pe_bl)) pss_nil)
  (pss_cons (ps_for PassesOwn.never rfl (pi_list (pe_call (ok__law_slots T) (hr.mono (by decide)) rfl T.g__law_slots T.F__law_slots.kp (b__law_slots T) .nil pass0 (pa_cons (pv 1) pa_nil))) (pg_name (i := 2) sc__law_is_within.nd rfl (Or.inl rfl)) (pss_cons (ps_par3 (by rfl) sc__law_is_within.nd rfl rfl rfl (by decide) (by decide) (by decide) rfl rfl rfl (pa_cons (pe_call (ok__law_held T) (hr.mono (by decide)) rfl T.g__law_held T.F__law_held.kp (b__law_held T) .nil pass0 (pa_cons (pv 1) (pa_cons (pv 2) pa_nil))) (pa_cons (pe_call (ok__law_held T) (hr.mono (by decide)) rfl T.g__law_held T.F__law_held.kp (b__law_held T) .nil pass0 (pa_cons (pe_ix ix_seq (pv 0) pe_int (fun _ _ => rfl)) (pa_cons (pv 2) pa_nil))) (pa_cons (pe_call (ok__law_held T) (hr.mono (by decide)) rfl T.g__law_held T.F__law_held.kp (b__law_held T) .nil pass0 (pa_cons (pe_ix ix_seq (pv 0) pe_int (fun _ _ => rfl)) (pa_cons (pv 2) pa_nil))) pa_nil))) (by rfl))
  (pss_one (ps_if (pt_cmpR op_gt (pe_op op_mulA (pe_call (ok__law_beside T) (hr.mono (by decide)) rfl T.g__law_beside T.F__law_beside.kp (b__law_beside T) .nil pass0 (pa_cons (pv 3) (pa_cons (pv 4) pa_nil))) (pe_call (ok__law_beside T) (hr.mono (by decide)) rfl T.g__law_beside T.F__law_beside.kp (b__law_beside T) .nil pass0 (pa_cons (pv 3) (pa_cons (pv 5) pa_nil)))) pe_int (nomark _)) (pss_one (ps_ret pe_bl)) pss_nil))))
  (pss_one (ps_ret pe_bl)))), pure__law_is_within K vs H Q E h⟩
/-! ### _law_is_line -/

def pre__law_is_line : List PyData → Prop := fun ds => ∃ v, ds = [v] ∧ ((∃ n, n ≤ 40 ∧ Ok n v) ∨ ∃ es, v = .dict es)
def post__law_is_line : List PyData → PyData → Prop := fun ds d => ∃ v, ds = [v] ∧ d = .bool (isLineD v)
abbrev sp__law_is_line (K : PySem.W.Frag) : Sp := SpP K pre__law_is_line post__law_is_line
theorem len__law_is_line (K : PySem.W.Frag) (vs : List V) (H : Hp) (Q : VK) (E : XK) (h : sp__law_is_line K vs H Q E) : vs.length = p__law_is_line.length := len_P (n := 1) h fun ds hp => by
  obtain ⟨v, e, ho⟩ := hp
  rw [e]; rfl
def t__law_is_line (K : PySem.W.Frag) : TS :=
  (tSeq (tIfS (tOr (tNot (tB (tCB (rIsi K) (tCons (tVar 0) (tCons (tC (.ty "tuple")) tNil))))) (tOr (tTest (tOp rNe (tCB (rLenQ K) (tCons (tVar 0) tNil)) (tC (.int 2)))) (tNot (tB (tCB (rIsi K) (tCons (tOp (rIx K) (tVar 0) (tC (.int 0))) (tCons (tC (.ty "tuple")) tNil))))))) (tRet (tC (.bl false))) tNext)
  (tSeq (tAsg (tCB (rLenQ K) (tCons (tOp (rIx K) (tVar 0) (tC (.int 0))) tNil)) (gName 1))
  (tSeq (tIfS (tOr (tTest (tOp (rI0 fun i j => .bl (decide (i < j))) (tVar 1) (tC (.int 1)))) (tOr (tTest (tOp (rI0 fun i j => .bl (decide (j < i))) (tVar 1) (tC (.int 8)))) (tOr (tNot (tB (tCB (rIsi K) (tCons (tOp (rIx K) (tVar 0) (tC (.int 1))) (tCons (tC (.ty "tuple")) tNil))))) (tTest (tOp rNe (tCB (rLenQ K) (tCons (tOp (rIx K) (tVar 0) (tC (.int 1))) tNil)) (tOp (rAddA K) (tVar 1) (tC (.int 1)))))))) (tRet (tC (.bl false))) tNext)
  (tSeq (tIfS (tTest (tOp (rNeD K) (tLc (iTup K (tOp (rAddA K) (tOp (rIx K) (tVar 0) (tC (.int 0))) (tOp (rIx K) (tVar 0) (tC (.int 1))))) (gName 2) (tOr (tNot (tB (tCall (sp__law_is_frac K) [] E0 (tCons (tVar 2) tNil)))) (tTest (tOp (rI0 fun i j => .bl (decide (i < j))) (tOp (rIx K) (tVar 2) (tC (.int 0))) (tC (.int 0))))) (tVar 2) [2]) (tLst tNil))) (tRet (tC (.bl false))) tNext)
  (tRet (tOp (rEqD K) (tLc (iTup K (tOp (rAddA K) (tOp (rIx K) (tVar 0) (tC (.int 0))) (tSl (rSlX2 K) (tOp (rIx K) (tVar 0) (tC (.int 1))) (tPart (tC (.int 1))) (tPart (tVar 1))))) (gName 2) (tTest (tOp rEq (tOp (rIx K) (tVar 2) (tC (.int 0))) (tC (.int 0)))) (tVar 2) [2]) (tLst tNil)))))))
theorem pure__law_is_line (K : PySem.W.Frag) (vs : List V) (H : Hp) (Q : VK) (E : XK) (h : sp__law_is_line K vs H Q E) : t__law_is_line K { nx := fun _ H' => Q .non H', rt := Q } (L2.start N__law_is_line vs) H := body_P h fun B ds hW hp => by
  obtain ⟨v, e, ho⟩ := hp
  subst e
  unfold t__law_is_line

  refine st_seq (st_if (et_or (et_not (et_B (ev_isiTup (ev_var rfl ⟨_, rfl, fun hb => ?_, fun hb => ⟨fun _ => ?_, fun z => nomatch z⟩⟩))))))
  · obtain ⟨xs, rfl⟩ := isTupT_true (d := v) (by simpa using hb)
    obtain ⟨n, n40, ho⟩ : ∃ n, n ≤ 40 ∧ Ok n (.tuple xs) := by
      rcases ho with ho | ⟨es, ho⟩
      · exact ho
      · cases ho
    refine et_or (et_test (ev_op (ev_cb (ea_cons (ev_var rfl (ea_nil (co_lenT (ev_int (rok_neI ⟨_, rfl, fun hb => ?_, fun hb => ?_⟩)))))))))
    · have hb : ((xs.length : Int) = 2) := by simpa using hb
      obtain ⟨a, b, rfl⟩ : ∃ a b, xs = [a, b] := by
        match xs, hb with
        | [a, b], _ => exact ⟨a, b, rfl⟩
        | [], h => cases h
        | [_], h => cases h
        | _ :: _ :: _ :: _, h => simp at h; omega
      have oi : ∀ x ∈ [a, b], Ok n x := fun x hx => by
        cases n with
        | zero => exact ho.elim
        | succ n => exact (ho.items.2 x hx).succ
      have oa := oi a (List.mem_cons_self ..)
      have ob := oi b (List.mem_cons_of_mem _ (List.mem_cons_self ..))
      refine et_not (et_B (ev_isiTup (ev_op (ev_var rfl (ev_int (rok_ixsT (d := a) rfl ⟨_, rfl, fun hb => ?_, fun hb => ?_⟩))))))
      · refine st_ret (ev_bl ⟨_, rfl, ?_⟩)
        cases a <;> first | rfl | cases hb
      obtain ⟨ds, rfl⟩ := isTupT_true (d := a) (by simpa using hb)
      refine st_next (st_seq (st_asg (ev_cb (ea_cons (ev_op (ev_var rfl (ev_int (rok_ixsT (d := .tuple ds) rfl (ea_nil (co_lenT ?_))))))))))
      have short : ¬ (1 ≤ ds.length ∧ ds.length ≤ 8) → PyData.bool false = .bool (isLineD (.tuple [.tuple ds, b])) := fun q => by rw [isLine_disc q]
      have wrong : isRowD b ((ds.length : Int) + 1) = false → PyData.bool false = .bool (isLineD (.tuple [.tuple ds, b])) := fun q => by rw [isLine_row2 q]
      refine st_seq (st_if (et_or (et_test (ev_op (ev_var rfl (ev_int (rok_b0 ⟨_, rfl, fun hb => ?_, fun hb => ?_⟩)))))))
      rotate_left
      · have hb := of_decide_eq_true hb
        exact ⟨fun _ => st_ret (ev_bl ⟨_, rfl, short (by omega)⟩), fun z => nomatch z⟩
      have h1 := of_decide_eq_false hb
      refine et_or (et_test (ev_op (ev_var rfl (ev_int (rok_b0 ⟨_, rfl, fun hb => ?_, fun hb => ?_⟩)))))
      rotate_left
      · have hb := of_decide_eq_true hb
        exact ⟨fun _ => st_ret (ev_bl ⟨_, rfl, short (by omega)⟩), fun z => nomatch z⟩
      have h8 := of_decide_eq_false hb
      refine et_or (et_not (et_B (ev_isiTup (ev_op (ev_var rfl (ev_int (rok_ixsT (d := b) rfl ⟨_, rfl, fun hb => ?_, fun hb => ?_⟩)))))))
      rotate_left
      · refine ⟨fun _ => st_ret (ev_bl ⟨_, rfl, wrong ?_⟩), fun z => nomatch z⟩
        cases b <;> first | rfl | cases hb
      obtain ⟨ss, rfl⟩ := isTupT_true (d := b) (by simpa using hb)
      refine et_test (ev_op (ev_cb (ea_cons (ev_op (ev_var rfl (ev_int (rok_ixsT (d := .tuple ss) rfl (ea_nil (co_lenT (ev_op (ev_var rfl (ev_int (ro_add (rok_neI ⟨_, rfl, fun hb => ?_, fun hb => ?_⟩))))))))))))))
      · have hb : ¬ ((ss.length : Int) = (ds.length : Int) + 1) := by simpa using hb
        refine st_ret (ev_bl ⟨_, rfl, wrong ?_⟩)
        show (decide _ && _) = false
        rw [decide_eq_false hb, Bool.false_and]
      have hl : ((ss.length : Int) = (ds.length : Int) + 1) := by simpa using hb
      have od : ∀ x ∈ ds ++ ss, Ok n x := fun x hx => by
        cases n with
        | zero => exact oa.elim
        | succ n =>
          rcases List.mem_append.mp hx with hx | hx
          · exact (oa.items.2 x hx).succ
          · exact (ob.items.2 x hx).succ
      refine st_next (st_seq (st_if (et_test (ev_op (ev_new (en_lcT (wipe1 2) (ev_op (ev_op (ev_var rfl (ev_int (rok_ixsT (d := .tuple ds) rfl (ev_op (ev_var rfl (ev_int (rok_ixsT (d := .tuple ss) rfl (ro_catT (by omega) ⟨ds ++ ss, rfl, by rw [List.length_append]; omega, fun i acc => acc = ((ds ++ ss).take i).filter (fun d => !isRowItem d), ⟨rfl, fun i D d' acc hi hJ hin => ?_⟩, fun acc hJ => ?_⟩))))))))))))))))
      · have od2 := od d' (List.mem_of_getElem? hi)
        have keep : isRowItem d' = false → acc ++ [d'] = ((ds ++ ss).take (i + 1)).filter (fun d => !isRowItem d) := fun q => by
          rw [flt_in hi (f := fun d => !isRowItem d) (by rw [q]; rfl), show acc = _ from hJ]
        have drop : isRowItem d' = true → acc = ((ds ++ ss).take (i + 1)).filter (fun d => !isRowItem d) := fun q => by
          rw [flt_out hi (f := fun d => !isRowItem d) (by rw [q]; rfl)]
          exact hJ
        refine et_or (et_not (et_B (ev_callP (ea_cons (ev_var rfl (ea_nil ⟨⟨d', n, rfl, od2, by omega⟩, fun d ⟨v', e, ed⟩ => ?_⟩))))))
        cases e
        refine ⟨_, ed, fun hb => ?_, fun hb => ⟨fun _ => ?_, fun z => nomatch z⟩⟩
        · have hb : isFracD d' = true := by simpa using hb
          obtain ⟨p, q, rfl, q0, g⟩ := isFracD_true hb
          refine et_test (ev_op (ev_op (ev_var rfl (ev_int (rok_ixsT (d := .int p) rfl (ev_int (rok_b0 ⟨_, rfl, fun hb2 => ?_, fun hb2 => ?_⟩)))))))
          · have hb2 := of_decide_eq_true hb2
            refine ev_var rfl (keep ?_)
            show (_ && decide (0 ≤ p)) = false
            rw [decide_eq_false (by omega), Bool.and_false]
          · have hb2 := of_decide_eq_false hb2
            refine drop ?_
            show (isFracD _ && decide (0 ≤ p)) = true
            rw [hb, decide_eq_true (by omega)]
            rfl
        · have hb : isFracD d' = false := by simpa using hb
          refine ev_var rfl (keep ?_)
          show (isFracD d' && _) = false
          rw [hb, Bool.false_and]
      · have hJ : acc = ((ds ++ ss).take (ds ++ ss).length).filter (fun d => !isRowItem d) := hJ
        rw [List.take_length] at hJ
        have oacc : ∀ x ∈ acc, Ok n x := fun x hx => by
          rw [hJ] at hx
          exact od x (List.mem_filter.mp hx).1
        obtain ⟨s1, s2⟩ := ok_list oacc (by omega)
        refine ev_lst (ea_nil ⟨by simp, rok_neD s2 nil_shaped.2 s1 nil_shaped.1 ⟨_, rfl, fun hb => ?_, fun hb => ?_⟩⟩)
        · rw [eqv_nil] at hb
          have h9 : acc.isEmpty = false := by simpa using hb
          refine st_ret (ev_bl ⟨_, rfl, ?_⟩)
          cases q : isLineD (.tuple [.tuple ds, .tuple ss]) with
          | false => rfl
          | true =>
            obtain ⟨dd, tt, e, hL⟩ := line_ll q
            unfold lineD at e
            simp only [PyData.tuple.injEq, List.cons.injEq, and_true] at e
            obtain ⟨rfl, rfl⟩ := e
            have : acc = [] := by
              rw [hJ]
              refine List.filter_eq_nil_iff.mpr fun x hx => ?_
              have : isRowItem x = true := by
                rcases List.mem_append.mp hx with hx | hx
                · obtain ⟨y, hy, rfl⟩ := List.mem_map.mp hx
                  exact frD_item (hL.dok y hy).1 (Int.le_of_lt (hL.dok y hy).2)
                · obtain ⟨y, hy, rfl⟩ := List.mem_map.mp hx
                  exact frD_item (hL.sok y hy).1 (hL.sok y hy).2
              rw [this]
              decide
            rw [this] at h9
            cases h9
        · rw [eqv_nil] at hb
          have hb : acc = [] := by simpa using hb
          rw [hJ] at hb
          have all : ∀ x ∈ ds ++ ss, isRowItem x = true := fun x hx => by simpa using List.filter_eq_nil_iff.mp hb x hx
          have r1 : isRowD (.tuple ds) ds.length = true := by
            show (decide ((ds.length : Int) = (ds.length : Int)) && ds.all isRowItem) = true
            rw [decide_eq_true rfl, Bool.true_and, List.all_eq_true]
            exact fun x hx => all x (List.mem_append_left _ hx)
          have r2 : isRowD (.tuple ss) ((ds.length : Int) + 1) = true := by
            show (decide ((ss.length : Int) = (ds.length : Int) + 1) && ss.all isRowItem) = true
            rw [decide_eq_true hl, Bool.true_and, List.all_eq_true]
            exact fun x hx => all x (List.mem_append_right _ hx)
          have hin := isLine_in (by omega) (by omega) r1 r2
          have ec : DL.cutD ss (some 1) (some (ds.length : Int)) = DL.cutD ss (some 1) (some (-1)) := by
            unfold DL.cutD
            have s2 : HT.sIx ss.length ss.length (some (-1)) = ds.length := by
              show (if (-1 : Int) < 0 then (-1 + (ss.length : Int)).toNat else min (-1 : Int).toNat ss.length) = ds.length
              rw [if_pos (by decide)]
              omega
            rw [s2, HT.sIx_nat, Nat.min_eq_left (by omega)]
          have cl := cutD_le ss (some 1) (some (ds.length : Int))
          refine st_next (st_ret (ev_op (ev_new (en_lcT (wipe1 2) (ev_op (ev_op (ev_var rfl (ev_int (rok_ixsT (d := .tuple ds) rfl (ev_sl (ev_op (ev_var rfl (ev_int (rok_ixsT (d := .tuple ss) rfl (eo_some (ev_int ⟨_, rfl, eo_some (ev_var rfl ⟨_, rfl, so_tup (ro_catT (by omega) ⟨ds ++ DL.cutD ss (some 1) (some (ds.length : Int)), rfl, by rw [List.length_append]; omega, fun i acc => acc = ((ds ++ DL.cutD ss (some 1) (some (ds.length : Int))).take i).filter (fun d => decide (numD d = 0)), ⟨rfl, fun i D d' acc hi hJ hin => ?_⟩, fun acc hJ => ?_⟩)⟩)⟩))))))))))))))))
          · have hm : d' ∈ ds ++ ss := by
              rcases List.mem_append.mp (List.mem_of_getElem? hi) with q | q
              · exact List.mem_append_left _ q
              · exact List.mem_append_right _ (cutD_mem q)
            have hi2 := all d' hm
            have hi3 : (isFracD d' && decide (0 ≤ numD d')) = true := hi2
            rw [Bool.and_eq_true] at hi3
            obtain ⟨p, q, rfl, q0, g⟩ := isFracD_true hi3.1
            refine et_test (ev_op (ev_op (ev_var rfl (ev_int (rok_ixsT (d := .int p) rfl (ev_int (rok_eqI ⟨_, rfl, fun hb2 => ?_, fun hb2 => ?_⟩)))))))
            · refine ev_var rfl ?_
              show acc ++ [_] = _
              rw [flt_in hi (f := fun d => decide (numD d = 0)) hb2, show acc = _ from hJ]
            · show acc = _
              rw [flt_out hi (f := fun d => decide (numD d = 0)) hb2]
              exact hJ
          · have hJ : acc = ((ds ++ DL.cutD ss (some 1) (some (ds.length : Int))).take (ds ++ DL.cutD ss (some 1) (some (ds.length : Int))).length).filter (fun d => decide (numD d = 0)) := hJ
            rw [List.take_length] at hJ
            have oacc : ∀ x ∈ acc, Ok n x := fun x hx => by
              rw [hJ] at hx
              rcases List.mem_append.mp (List.mem_filter.mp hx).1 with q | q
              · exact od x (List.mem_append_left _ q)
              · exact od x (List.mem_append_right _ (cutD_mem q))
            obtain ⟨s1, s2⟩ := ok_list oacc (by omega)
            refine ev_lst (ea_nil ⟨by simp, rok_eqD s2 nil_shaped.2 s1 nil_shaped.1 ⟨_, rfl, ?_⟩⟩)
            rw [eqv_nil, hin, ← ec]
            refine congrArg PyData.bool (bool_iff (p := ∀ d ∈ ds ++ DL.cutD ss (some 1) (some (ds.length : Int)), 0 < numD d) ?_ ?_)
            · rw [List.isEmpty_iff, hJ, List.filter_eq_nil_iff]
              have nn : ∀ d ∈ ds ++ DL.cutD ss (some 1) (some (ds.length : Int)), 0 ≤ numD d := fun d hd => by
                have hm : d ∈ ds ++ ss := by
                  rcases List.mem_append.mp hd with q | q
                  · exact List.mem_append_left _ q
                  · exact List.mem_append_right _ (cutD_mem q)
                exact of_decide_eq_true (Bool.and_eq_true_iff.mp (show (isFracD d && decide (0 ≤ numD d)) = true from all d hm)).2
              constructor
              · intro q d hd
                have h1 := nn d hd
                have h2 : ¬ (numD d = 0) := by simpa using q d hd
                omega
              · intro q d hd
                have := q d hd
                simp
                omega
            · rw [List.all_eq_true]
              exact ⟨fun q d hd => of_decide_eq_true (q d hd), fun q d hd => decide_eq_true (q d hd)⟩
    · have hb : ¬ ((xs.length : Int) = 2) := by simpa using hb
      exact ⟨fun _ => st_ret (ev_bl ⟨_, rfl, by rw [isLine_len (by omega)]⟩), fun z => nomatch z⟩
  · exact st_ret (ev_bl ⟨v, rfl, by cases v <;> first | rfl | cases hb⟩)
theorem ok__law_is_line (T : Tx K mg) : FnOk P w K mg base CX0 3 T.a__law_is_line T.d__law_is_line p__law_is_line (sp__law_is_line K) := by
  refine T.F__law_is_line.ok sc__law_is_line (fun vs H Q E h => len__law_is_line K vs H Q E h) (fun cdv A outer s H vs Q E hr h => ?_)
  have hu := hr.units
  exact ⟨t__law_is_line K, (pss_cons (ps_if (PW.pt (pw_or (pt_not (pt_val (pe_callB call_isi (by rfl) T.n_isinstance (by decide +kernel) (pa_cons (pv 0) (pa_cons (pe_bltn (v := .ty "tuple") (by rfl) T.n_tuple (by decide +kernel) rfl) pa_nil))))) (pw_or (pt_cmpR op_ne (pe_callB call_len_seq (by rfl) T.n_len (by decide +kernel) (pa_cons (pv 0) pa_nil)) pe_int (nomark _)) (pw_or1 (pt_not (pt_val (pe_callB call_isi (by rfl) T.n_isinstance (by decide +kernel) (pa_cons (pe_ix ix_seq (pv 0) pe_int (fun _ _ => rfl)) (pa_cons (pe_bltn (v := .ty "tuple") (by rfl) T.n_tuple (by decide +kernel) rfl) pa_nil))))))))) (pss_one (ps_ret pe_bl)) pss_nil)
  (pss_cons (ps_set (i := 1) sc__law_is_line.nd rfl (Or.inl rfl) (pe_callB call_len_seq (by rfl) T.n_len (by decide +kernel) (pa_cons (pe_ix ix_seq (pv 0) pe_int (fun _ _ => rfl)) pa_nil)))
  (pss_cons (ps_if (PW.pt (pw_or (pt_cmpR op_lt (pv 1) pe_int (nomark _)) (pw_or (pt_cmpR op_gt (pv 1) pe_int (nomark _)) (pw_or (pt_not (pt_val (pe_callB call_isi (by rfl) T.n_isinstance (by decide +kernel) (pa_cons (pe_ix ix_seq (pv 0) pe_int (fun _ _ => rfl)) (pa_cons (pe_bltn (v := .ty "tuple") (by rfl) T.n_tuple (by decide +kernel) rfl) pa_nil))))) (pw_or1 (pt_cmpR op_ne (pe_callB call_len_seq (by rfl) T.n_len (by decide +kernel) (pa_cons (pe_ix ix_seq (pv 0) pe_int (fun _ _ => rfl)) pa_nil)) (pe_op op_addA (pv 1) pe_int) (nomark _))))))) (pss_one (ps_ret pe_bl)) pss_nil)
  (pss_cons (ps_if (pt_cmpR (op_neD hu) (pe_lc (own := [("_law_each", 2)]) (by rfl) sc__law_is_line.nd (pi_tup (pe_op op_addA (pe_ix ix_seq (pv 0) pe_int (fun _ _ => rfl)) (pe_ix ix_seq (pv 0) pe_int (fun _ _ => rfl)))) (blkOk_by (own := [("_law_each", 2)]) (N := N__law_is_line) (sc := defScope s__law_is_line) (by decide +kernel)) (fun _ _ _ _ _ => pg_name (i := 2) sc__law_is_line.nd rfl (Or.inl rfl)) (fun _ _ _ _ _ => (pts_one (PW.pt (pw_or (pt_not (pt_val (pe_call (ok__law_is_frac T) (hr.mono (by decide)) rfl T.g__law_is_frac T.F__law_is_frac.kp (b__law_is_frac T) .nil pass0 (pa_cons (pv 2) pa_nil)))) (pw_or1 (pt_cmpR op_lt (pe_ix ix_seq (pv 2) pe_int (fun _ _ => rfl)) pe_int (nomark _))))))) (fun _ _ _ _ _ => (pv 2))) (pe_lst pa_nil) (nomark _)) (pss_one (ps_ret pe_bl)) pss_nil)
  (pss_one (ps_ret (pe_cmpR (op_eqD hu) (pe_lc (own := [("_law_each", 2)]) (by rfl) sc__law_is_line.nd (pi_tup (pe_op op_addA (pe_ix ix_seq (pv 0) pe_int (fun _ _ => rfl)) (pe_slice sl_any (pe_ix ix_seq (pv 0) pe_int (fun _ _ => rfl)) (po_some pe_int) (po_some (pv 1))))) (blkOk_by (own := [("_law_each", 2)]) (N := N__law_is_line) (sc := defScope s__law_is_line) (by decide +kernel)) (fun _ _ _ _ _ => pg_name (i := 2) sc__law_is_line.nd rfl (Or.inl rfl)) (fun _ _ _ _ _ => (pts_one (pt_cmpR op_eq (pe_ix ix_seq (pv 2) pe_int (fun _ _ => rfl)) pe_int (nomark _)))) (fun _ _ _ _ _ => (pv 2))) (pe_lst pa_nil) (nomark _)))))))), pure__law_is_line K vs H Q E h⟩
/-! ### _law_is_box -/

def pre__law_is_box : List PyData → Prop := fun ds => ∃ v, ds = [v] ∧ ((∃ n, n ≤ 40 ∧ Ok n v) ∨ ∃ es, v = .dict es)
def post__law_is_box : List PyData → PyData → Prop := fun ds d => ∃ (v : PyData) (b : Bool), ds = [v] ∧ d = .bool b ∧ (b = true ↔ BoxP v)
abbrev sp__law_is_box (K : PySem.W.Frag) : Sp := SpP K pre__law_is_box post__law_is_box
theorem len__law_is_box (K : PySem.W.Frag) (vs : List V) (H : Hp) (Q : VK) (E : XK) (h : sp__law_is_box K vs H Q E) : vs.length = p__law_is_box.length := len_P (n := 1) h fun ds hp => by
  obtain ⟨v, e, ho⟩ := hp
  rw [e]; rfl
def t__law_is_box (K : PySem.W.Frag) : TS :=
  (tSeq (tIfS (tOr (tNot (tB (tCB (rIsi K) (tCons (tVar 0) (tCons (tC (.ty "tuple")) tNil))))) (tOr (tTest (tOp rNe (tCB (rLenQ K) (tCons (tVar 0) tNil)) (tC (.int 2)))) (tOr (tNot (tB (tCall (sp__law_is_line K) [] E0 (tCons (tOp (rIx K) (tVar 0) (tC (.int 0))) tNil)))) (tNot (tB (tCall (sp__law_is_line K) [] E0 (tCons (tOp (rIx K) (tVar 0) (tC (.int 1))) tNil))))))) (tRet (tC (.bl false))) tNext)
  (tSeq (tIfS (tTest (tOp rNe (tCB (rLenQ K) (tCons (tOp (rIx K) (tOp (rIx K) (tVar 0) (tC (.int 0))) (tC (.int 0))) tNil)) (tCB (rLenQ K) (tCons (tOp (rIx K) (tOp (rIx K) (tVar 0) (tC (.int 1))) (tC (.int 0))) tNil)))) (tRet (tC (.bl false))) tNext)
  (tSeq (tFor (iList K (tCall (sp__law_slots K) [] E0 (tCons (tOp (rIx K) (tVar 0) (tC (.int 0))) tNil))) (gName 1) (tSeq (tAsg (tCall (sp__law_beside K) [] E0 (tCons (tCall (sp__law_held K) [] E0 (tCons (tOp (rIx K) (tVar 0) (tC (.int 0))) (tCons (tVar 1) tNil))) (tCons (tCall (sp__law_held K) [] E0 (tCons (tOp (rIx K) (tVar 0) (tC (.int 1))) (tCons (tVar 1) tNil))) tNil))) (gName 2))
  (tIfS (tOr (tAnd (tTest (tOp (rI0 fun i j => .bl (decide (i < j))) (tVar 2) (tC (.int 0)))) (tTest (tOp rEq (tOp (rIx K) (tVar 1) (tC (.int 0))) (tC (.str ("disc" : Str)))))) (tAnd (tTest (tOp (rI0 fun i j => .bl (decide (j < i))) (tVar 2) (tC (.int 0)))) (tTest (tOp rEq (tOp (rIx K) (tVar 1) (tC (.int 0))) (tC (.str ("shaft" : Str))))))) (tRet (tC (.bl false))) tNext)))
  (tRet (tC (.bl true))))))
theorem pure__law_is_box (K : PySem.W.Frag) (vs : List V) (H : Hp) (Q : VK) (E : XK) (h : sp__law_is_box K vs H Q E) : t__law_is_box K { nx := fun _ H' => Q .non H', rt := Q } (L2.start N__law_is_box vs) H := body_P h fun B ds hW hp => by
  obtain ⟨v, e, ho⟩ := hp
  subst e
  unfold t__law_is_box

  refine st_seq (st_if (et_or (et_not (et_B (ev_isiTup (ev_var rfl ⟨_, rfl, fun hb => ?_, fun hb => ⟨fun _ => ?_, fun z => nomatch z⟩⟩))))))
  · obtain ⟨xs, rfl⟩ := isTupT_true (d := v) (by simpa using hb)
    obtain ⟨n, n40, ho⟩ : ∃ n, n ≤ 40 ∧ Ok n (.tuple xs) := by
      rcases ho with ho | ⟨es, ho⟩
      · exact ho
      · cases ho
    refine et_or (et_test (ev_op (ev_cb (ea_cons (ev_var rfl (ea_nil (co_lenT (ev_int (rok_neI ⟨_, rfl, fun hb => ?_, fun hb => ?_⟩)))))))))
    · have hb : ((xs.length : Int) = 2) := by simpa using hb
      obtain ⟨a, b, rfl⟩ : ∃ a b, xs = [a, b] := by
        match xs, hb with
        | [a, b], _ => exact ⟨a, b, rfl⟩
        | [], h => cases h
        | [_], h => cases h
        | _ :: _ :: _ :: _, h => simp at h; omega
      have oi : ∀ x ∈ [a, b], Ok n x := fun x hx => by
        cases n with
        | zero => exact ho.elim
        | succ n => exact (ho.items.2 x hx).succ
      have oa := oi a (List.mem_cons_self ..)
      have ob := oi b (List.mem_cons_of_mem _ (List.mem_cons_self ..))
      have no1 : isLineD a = false → ¬ BoxP (.tuple [a, b]) := fun q ⟨dd, ss, ee, ts, e, h1, h2, _⟩ => by
        cases e
        rw [lineD_ll h1] at q
        cases q
      have no2 : isLineD b = false → ¬ BoxP (.tuple [a, b]) := fun q ⟨dd, ss, ee, ts, e, h1, h2, _⟩ => by
        cases e
        rw [lineD_ll h2] at q
        cases q
      refine et_or (et_not (et_B (ev_callP (ea_cons (ev_op (ev_var rfl (ev_int (rok_ixsT (d := a) rfl (ea_nil ⟨⟨_, rfl, .inl ⟨n, n40, oa⟩⟩, fun d ⟨v', e, ed⟩ => ?_⟩)))))))))
      cases e
      refine ⟨_, ed, fun q1 => ?_, fun q1 => ⟨fun _ => st_ret (ev_bl ⟨_, false, rfl, rfl, (fun z => nomatch z), fun z => (no1 (by simpa using q1) z).elim⟩), fun z => nomatch z⟩⟩
      have q1 : isLineD a = true := by simpa using q1
      refine et_not (et_B (ev_callP (ea_cons (ev_op (ev_var rfl (ev_int (rok_ixsT (d := b) rfl (ea_nil ⟨⟨_, rfl, .inl ⟨n, n40, ob⟩⟩, fun d ⟨v', e, ed⟩ => ?_⟩))))))))
      cases e
      refine ⟨_, ed, fun q2 => st_ret (ev_bl ⟨_, false, rfl, rfl, (fun z => nomatch z), fun z => (no2 (by simpa using q2) z).elim⟩), fun q2 => ?_⟩
      have q2 : isLineD b = true := by simpa using q2
      obtain ⟨dd, ss, rfl, h1⟩ := line_ll q1
      obtain ⟨ee, ts, rfl, h2⟩ := line_ll q2
      have h1 := line_lb oa h1
      have h2 := line_lb ob h2
      have c8 := h1.c8
      have l1 := h1.len
      have l2 := h2.len
      have bx : BoxP (.tuple [lineD dd ss, lineD ee ts]) ↔ NF dd ss ee ts := by
        constructor
        · rintro ⟨d1, s1, e1, t1, e, _, _, q⟩
          obtain ⟨rfl, rfl, rfl, rfl⟩ := ll_inj (PyData.tuple.inj e)
          exact q
        · exact fun q => ⟨dd, ss, ee, ts, rfl, h1.toLL, h2.toLL, q⟩
      refine st_next (st_seq (st_if (et_test (ev_op (ev_cb (ea_cons (ev_op (ev_op (ev_var rfl (ev_int (rok_ixsT (d := lineD dd ss) rfl (ev_int (rok_ixsT (d := .tuple (dd.map frD)) rfl (ea_nil (co_lenT (ev_cb (ea_cons (ev_op (ev_op (ev_var rfl (ev_int (rok_ixsT (d := lineD ee ts) rfl (ev_int (rok_ixsT (d := .tuple (ee.map frD)) rfl (ea_nil (co_lenT (rok_neI ⟨_, rfl, fun hb => ?_, fun hb => ?_⟩)))))))))))))))))))))))))))
      · rw [List.length_map, List.length_map] at hb
        have hb : ¬ ((dd.length : Int) = (ee.length : Int)) := by simpa using hb
        exact st_ret (ev_bl ⟨_, false, rfl, rfl, (fun z => nomatch z), fun q => (hb (by rw [(bx.mp q).1])).elim⟩)
      rw [List.length_map, List.length_map] at hb
      have hb : ((dd.length : Int) = (ee.length : Int)) := by simpa using hb
      have hn := nf_slots (dd := dd) (ss := ss) (ee := ee) (ts := ts) (by omega) l1
      refine st_next (st_seq (st_forL (ev_callP (ea_cons (ev_op (ev_var rfl (ev_int (rok_ixsT (d := lineD dd ss) rfl (ea_nil ⟨⟨dd, ss, rfl, c8⟩, fun d ⟨d1, s1, e, ed⟩ => ?_⟩)))))))))
      obtain ⟨rfl, rfl⟩ := lineD_inj e
      subst ed
      rw [slots_is]
      refine ⟨_, rfl, fun i L2 Γ2 => ∃ s2 s3 : Sl, L2 = [] ∧ Γ2 = [.d (.tuple [lineD dd ss, lineD ee ts]), s2, s3] ∧ ∀ p ∈ (slotsOf dd.length).take i, SOk dd ss ee ts p, ⟨_, _, rfl, rfl, fun p hp => by cases hp⟩, ?_, ?_⟩
      · rintro i d' L2 Γ2 g hi ⟨s2, s3, rfl, rfl, inv⟩
        obtain ⟨⟨b, j⟩, hp, rfl⟩ : ∃ p, (slotsOf dd.length)[i]? = some p ∧ d' = slotP p := map_getG hi
        have pm := List.mem_of_getElem? hp
        have k1 := slot_ok l1 pm
        have k2 : slotOk ee ts b j := slot_ok l2 (by rw [show ee.length = dd.length by omega]; exact pm)
        refine st_seq (st_asg (ev_callP (ea_cons (ev_callP (ea_cons (ev_op (ev_var rfl (ev_int (rok_ixsT (d := lineD dd ss) rfl (ea_cons (ev_var rfl (ea_nil ⟨⟨dd, ss, b, j, rfl, k1⟩, fun d ⟨d1, s1, b1, i1, e, ed⟩ => ?_⟩))))))))))))
        obtain ⟨rfl, rfl, rfl, rfl⟩ := ls_inj e
        subst ed
        refine ea_cons (ev_callP (ea_cons (ev_op (ev_var rfl (ev_int (rok_ixsT (d := lineD ee ts) rfl (ea_cons (ev_var rfl (ea_nil ⟨⟨ee, ts, b, j, rfl, k2⟩, fun d ⟨d1, s1, b1, i1, e, ed⟩ => ?_⟩)))))))))
        obtain ⟨rfl, rfl, rfl, rfl⟩ := ls_inj e
        subst ed
        refine ea_nil ⟨⟨_, _, rfl, held_sm h1 k1, held_sm h2 k2⟩, fun d ⟨x', y', e, ed⟩ => ?_⟩
        obtain ⟨rfl, rfl⟩ := frD2_inj e
        subst ed
        have no : ¬ SOk dd ss ee ts (b, j) → post__law_is_box [.tuple [lineD dd ss, lineD ee ts]] (.bool false) := fun q => ⟨_, false, rfl, rfl, (fun z => nomatch z), fun z => (q (hn.mp (bx.mp z) _ pm)).elim⟩
        rw [held_val, held_val]
        cases b with
        | true =>
          rw [if_pos rfl, if_pos rfl]
          have so : SOk dd ss ee ts (true, j) ↔ jv ee j ≤ jv dd j := Iff.rfl
          refine st_if (et_or (EvT.mono (kb := fun b => (b = true → ¬ SOk dd ss ee ts (true, j)) ∧ (b = false → SOk dd ss ee ts (true, j))) ?_ fun b hb => ⟨fun z => EvT.mono (kb := fun b => b = false) ?_ fun c hc => ⟨(fun y => by rw [hc] at y; cases y), fun _ => st_next ⟨_, _, rfl, rfl, take_step hp inv (hb.2 z)⟩⟩, fun z => ⟨fun _ => st_ret (ev_bl (no (hb.1 z))), fun z => nomatch z⟩⟩))
          · refine et_and (et_test (ev_op (ev_var rfl (ev_int (rok_b0 ⟨_, rfl, fun hb => ?_, fun hb => ⟨(fun z => nomatch z), fun _ => so.mpr (Rat.not_lt.mp fun z => of_decide_eq_false hb (rsgn_neg.mpr z))⟩⟩)))))
            exact et_test (ev_op (ev_op (ev_var rfl (ev_int (rok_ixsT (d := .str ("disc" : Str)) rfl (ev_str (rok_eqS ⟨_, rfl, fun _ q => Rat.not_le.mpr (rsgn_neg.mp (of_decide_eq_true hb)) (so.mp q), fun hb => absurd (of_decide_eq_false hb) (fun z => z rfl)⟩)))))))
          · refine et_and (et_test (ev_op (ev_var rfl (ev_int (rok_b0 ⟨_, rfl, fun hb => ?_, fun hb => rfl⟩)))))
            exact et_test (ev_op (ev_op (ev_var rfl (ev_int (rok_ixsT (d := .str ("disc" : Str)) rfl (ev_str (rok_eqS ⟨_, rfl, decide_eq_false (by decide)⟩)))))))
        | false =>
          rw [if_neg (show ¬ ((false, j).fst = true) from Bool.false_ne_true), if_neg (show ¬ ((false, j).fst = true) from Bool.false_ne_true)]
          have so : SOk dd ss ee ts (false, j) ↔ jv ss j ≤ jv ts j := Iff.rfl
          have second : EvT K B (g :: []) [] [.d (.tuple [lineD dd ss, lineD ee ts]), .d (slotP (false, j)), .d (.int (rsgn (jv ss j - jv ts j)))] (tAnd (tTest (tOp (rI0 fun i j => .bl (decide (j < i))) (tVar 2) (tC (.int 0)))) (tTest (tOp rEq (tOp (rIx K) (tVar 1) (tC (.int 0))) (tC (.str ("shaft" : Str)))))) fun b => (b = true → ¬ SOk dd ss ee ts (false, j)) ∧ (b = false → SOk dd ss ee ts (false, j)) := by
            refine et_and (et_test (ev_op (ev_var rfl (ev_int (rok_b0 ⟨_, rfl, fun hb => ?_, fun hb => ⟨(fun z => nomatch z), fun _ => so.mpr (Rat.not_lt.mp fun z => of_decide_eq_false hb (rsgn_pos'.mpr z))⟩⟩)))))
            exact et_test (ev_op (ev_op (ev_var rfl (ev_int (rok_ixsT (d := .str ("shaft" : Str)) rfl (ev_str (rok_eqS ⟨_, rfl, fun _ q => Rat.not_le.mpr (rsgn_pos'.mp (of_decide_eq_true hb)) (so.mp q), fun hb => absurd (of_decide_eq_false hb) (fun z => z rfl)⟩)))))))
          refine st_if (et_or (EvT.mono (kb := fun b => b = false) ?_ fun b hb => ⟨fun _ => EvT.mono second fun b hs => ⟨fun z => st_ret (ev_bl (no (hs.1 z))), fun z => st_next ⟨_, _, rfl, rfl, take_step hp inv (hs.2 z)⟩⟩, fun z => by rw [hb] at z; cases z⟩))
          refine et_and (et_test (ev_op (ev_var rfl (ev_int (rok_b0 ⟨_, rfl, fun hb => ?_, fun hb => rfl⟩)))))
          exact et_test (ev_op (ev_op (ev_var rfl (ev_int (rok_ixsT (d := .str ("shaft" : Str)) rfl (ev_str (rok_eqS ⟨_, rfl, decide_eq_false (by decide)⟩)))))))
      · rintro L2 Γ2 ⟨s2, s3, rfl, rfl, inv⟩
        rw [List.length_map, List.take_length] at inv
        exact st_ret (ev_bl ⟨_, true, rfl, rfl, (fun _ => bx.mpr (hn.mpr inv)), (fun _ => rfl)⟩)
    · have hb : ¬ ((xs.length : Int) = 2) := by simpa using hb
      refine ⟨fun _ => st_ret (ev_bl ⟨_, false, rfl, rfl, (fun z => nomatch z), fun ⟨dd, ss, ee, ts, e, _⟩ => ?_⟩), fun z => nomatch z⟩
      cases e
      exact (hb rfl).elim
  · refine st_ret (ev_bl ⟨v, false, rfl, rfl, (fun z => nomatch z), fun ⟨dd, ss, ee, ts, e, _⟩ => ?_⟩)
    subst e
    cases hb
theorem ok__law_is_box (T : Tx K mg) : FnOk P w K mg base CX0 4 T.a__law_is_box T.d__law_is_box p__law_is_box (sp__law_is_box K) := by
  refine T.F__law_is_box.ok sc__law_is_box (fun vs H Q E h => len__law_is_box K vs H Q E h) (fun cdv A outer s H vs Q E hr h => ?_)
  exact ⟨t__law_is_box K, (pss_cons (ps_if (PW.pt (pw_or (pt_not (pt_val (pe_callB call_isi (by rfl) T.n_isinstance (by decide +kernel) (pa_cons (pv 0) (pa_cons (pe_bltn (v := .ty "tuple") (by rfl) T.n_tuple (by decide +kernel) rfl) pa_nil))))) (pw_or (pt_cmpR op_ne (pe_callB call_len_seq (by rfl) T.n_len (by decide +kernel) (pa_cons (pv 0) pa_nil)) pe_int (nomark _)) (pw_or (pt_not (pt_val (pe_call (ok__law_is_line T) (hr.mono (by decide)) rfl T.g__law_is_line T.F__law_is_line.kp (b__law_is_line T) .nil pass0 (pa_cons (pe_ix ix_seq (pv 0) pe_int (fun _ _ => rfl)) pa_nil)))) (pw_or1 (pt_not (pt_val (pe_call (ok__law_is_line T) (hr.mono (by decide)) rfl T.g__law_is_line T.F__law_is_line.kp (b__law_is_line T) .nil pass0 (pa_cons (pe_ix ix_seq (pv 0) pe_int (fun _ _ => rfl)) pa_nil))))))))) (pss_one (ps_ret pe_bl)) pss_nil)
  (pss_cons (ps_if (pt_cmpR op_ne (pe_callB call_len_seq (by rfl) T.n_len (by decide +kernel) (pa_cons (pe_ix ix_seq (pe_ix ix_seq (pv 0) pe_int (fun _ _ => rfl)) pe_int (fun _ _ => rfl)) pa_nil)) (pe_callB call_len_seq (by rfl) T.n_len (by decide +kernel) (pa_cons (pe_ix ix_seq (pe_ix ix_seq (pv 0) pe_int (fun _ _ => rfl)) pe_int (fun _ _ => rfl)) pa_nil)) (nomark _)) (pss_one (ps_ret pe_bl)) pss_nil)
  (pss_cons (ps_for PassesOwn.never rfl (pi_list (pe_call (ok__law_slots T) (hr.mono (by decide)) rfl T.g__law_slots T.F__law_slots.kp (b__law_slots T) .nil pass0 (pa_cons (pe_ix ix_seq (pv 0) pe_int (fun _ _ => rfl)) pa_nil))) (pg_name (i := 1) sc__law_is_box.nd rfl (Or.inl rfl)) (pss_cons (ps_set (i := 2) sc__law_is_box.nd rfl (Or.inl rfl) (pe_call (ok__law_beside T) (hr.mono (by decide)) rfl T.g__law_beside T.F__law_beside.kp (b__law_beside T) .nil pass0 (pa_cons (pe_call (ok__law_held T) (hr.mono (by decide)) rfl T.g__law_held T.F__law_held.kp (b__law_held T) .nil pass0 (pa_cons (pe_ix ix_seq (pv 0) pe_int (fun _ _ => rfl)) (pa_cons (pv 1) pa_nil))) (pa_cons (pe_call (ok__law_held T) (hr.mono (by decide)) rfl T.g__law_held T.F__law_held.kp (b__law_held T) .nil pass0 (pa_cons (pe_ix ix_seq (pv 0) pe_int (fun _ _ => rfl)) (pa_cons (pv 1) pa_nil))) pa_nil))))
  (pss_one (ps_if (PW.pt (pw_or (PW.pt (pw_and (pt_cmpR op_lt (pv 2) pe_int (nomark _)) (pw_and1 (pt_cmpR op_eq (pe_ix ix_seq (pv 1) pe_int (fun _ _ => rfl)) pe_str (nomark _))))) (pw_or1 (PW.pt (pw_and (pt_cmpR op_gt (pv 2) pe_int (nomark _)) (pw_and1 (pt_cmpR op_eq (pe_ix ix_seq (pv 1) pe_int (fun _ _ => rfl)) pe_str (nomark _)))))))) (pss_one (ps_ret pe_bl)) pss_nil))))
  (pss_one (ps_ret pe_bl))))), pure__law_is_box K vs H Q E h⟩
/-! ### _law_odd -/
def isDicB : PyData → Bool
  | .dict _ => true
  | _ => false

def pre__law_odd : List PyData → Prop := fun ds => True ∧ ds = []
def post__law_odd : List PyData → PyData → Prop := fun ds d => OkC 3 6 d ∨ ∃ es, d = .dict es
abbrev sp__law_odd (K : PySem.W.Frag) : Sp := SpW K pre__law_odd post__law_odd
theorem len__law_odd (K : PySem.W.Frag) (vs : List V) (H : Hp) (Q : VK) (E : XK) (h : sp__law_odd K vs H Q E) : vs.length = p__law_odd.length := len_W (n := 0) h fun ds hp => by
  obtain ⟨_, e⟩ := hp
  rw [e]; rfl
def t__law_odd (K : PySem.W.Frag) : TS :=
  (tSeq (tAsg (tLst (tCons (tC .non) (tCons (tC (.bl true)) (tCons (tC (.bl false)) (tCons (tC (.int 0)) (tCons (tUn (rU fun i => .int (-i)) (tC (.int 1))) (tCons (tC (.int 7)) (tCons (tC (.str ("" : Str))) (tCons (tC (.str ("disc" : Str))) (tCons (tTup tNil) (tCons (tTup (tCons (tC (.int 1)) tNil)) (tCons (tTup (tCons (tC (.int 1)) (tCons (tC (.int 1)) tNil))) (tCons (tTup (tCons (tC (.int 2)) (tCons (tC (.int 4)) tNil))) (tCons (tTup (tCons (tC (.int 0)) (tCons (tC (.int 1)) tNil))) (tCons (tTup (tCons (tC (.int 1)) (tCons (tC (.int 0)) tNil))) (tCons (tTup (tCons (tUn (rU fun i => .int (-i)) (tC (.int 1))) (tCons (tC (.int 2)) tNil))) (tCons (tLst (tCons (tC (.int 1)) (tCons (tC (.int 1)) tNil))) (tCons tDNewK tNil)))))))))))))))))) (gName 1))
  (tSeq (tAsg (tOp (rAddA K) (tVar 1) (tLst (tCons (tTup (tCons (tTup (tCons (tC (.int 1)) (tCons (tC (.int 1)) tNil))) tNil)) (tCons (tTup (tCons (tTup (tCons (tTup (tCons (tC (.int 1)) (tCons (tC (.int 1)) tNil))) tNil)) (tCons (tTup (tCons (tTup (tCons (tC (.int 0)) (tCons (tC (.int 1)) tNil))) (tCons (tTup (tCons (tC (.int 1)) (tCons (tC (.int 1)) tNil))) tNil))) tNil))) (tCons (tOp (rI CPow fun i j => .int (i ^ j.toNat)) (tC (.int 10)) (tC (.int 30))) (tCons (tTup (tCons (tC (.bl true)) (tCons (tC (.int 1)) tNil))) (tCons (tTup (tCons (tC (.str ("disc" : Str))) (tCons (tC (.int 0)) tNil))) (tCons (tTup (tCons (tC (.str ("shaft" : Str))) (tCons (tC (.bl true)) tNil))) (tCons (tDisp [((tC (.str ("a" : Str))), (tC (.int 1)))]) tNil))))))))) (gName 1))
  (tRet (tCall (sp__law_any K) [] E0 (tCons (tVar 0) (tCons (tOp (rAddA K) (tVar 1) (tLst (tCons (tTup (tCons (tTup tNil) (tCons (tTup (tCons (tTup (tCons (tC (.int 1)) (tCons (tC (.int 1)) tNil))) tNil)) tNil))) (tCons (tTup (tCons (tTup (tCons (tTup (tCons (tC (.int 1)) (tCons (tC (.int 1)) tNil))) tNil)) (tCons (tTup (tCons (tTup (tCons (tC (.int 0)) (tCons (tC (.int 1)) tNil))) tNil)) tNil))) (tCons (tC (.str ("1/1 | 0/1 1/1" : Str))) tNil))))) tNil))))))
theorem pure__law_odd (K : PySem.W.Frag) (vs : List V) (H : Hp) (Q : VK) (E : XK) (h : sp__law_odd K vs H Q E) : t__law_odd K { nx := fun _ H' => Q .non H', rt := Q } (L2.start N__law_odd vs) H := body_W h (by decide) fun B w ds hp => by
  obtain ⟨_, e⟩ := hp
  subst e
  unfold t__law_odd

  have fin : ∀ d, (okB 6 d || isDicB d) = true → OkC 3 6 d ∨ ∃ es, d = .dict es := fun d h => by
    rw [Bool.or_eq_true] at h
    rcases h with h | h
    · exact .inl (okB_ok h)
    · cases d with
      | dict es => exact .inr ⟨es, rfl⟩
      | _ => cases h
  refine st_seq (st_asg (ev_lst (ea_cons (ev_non (ea_cons (ev_bl (ea_cons (ev_bl (ea_cons (ev_int (ea_cons (ev_un (ev_int (uok_neg ?_))))))))))))))
  refine ea_cons (ev_int (ea_cons (ev_str (ea_cons (ev_str ?_)))))
  refine ea_cons (ev_tup (ea_nil ⟨by simp, ?_⟩))
  refine ea_cons (ev_tup (ea_cons (ev_int (ea_nil ⟨by simp, ?_⟩))))
  refine ea_cons (ev_tup (ea_cons (ev_int (ea_cons (ev_int (ea_nil ⟨by simp, ?_⟩))))))
  refine ea_cons (ev_tup (ea_cons (ev_int (ea_cons (ev_int (ea_nil ⟨by simp, ?_⟩))))))
  refine ea_cons (ev_tup (ea_cons (ev_int (ea_cons (ev_int (ea_nil ⟨by simp, ?_⟩))))))
  refine ea_cons (ev_tup (ea_cons (ev_int (ea_cons (ev_int (ea_nil ⟨by simp, ?_⟩))))))
  refine ea_cons (ev_tup (ea_cons (ev_un (ev_int (uok_neg (ea_cons (ev_int (ea_nil ⟨by simp, ?_⟩))))))))
  refine ea_cons (ev_lst (ea_cons (ev_int (ea_cons (ev_int (ea_nil ⟨by simp, ?_⟩))))))
  refine ea_cons (ev_dictD ?_)
  refine ea_nil ⟨by simp, ?_⟩
  refine st_seq (st_asg (ev_op (ev_var rfl (ev_lst ?_))))
  refine ea_cons (ev_tup (ea_cons (ev_tup (ea_cons (ev_int (ea_cons (ev_int (ea_nil ⟨by simp, ea_nil ⟨by simp, ?_⟩⟩))))))))
  refine ea_cons (ev_tup (ea_cons (ev_tup (ea_cons (ev_tup (ea_cons (ev_int (ea_cons (ev_int (ea_nil ⟨by simp, ea_nil ⟨by simp, ?_⟩⟩))))))))))
  refine ea_cons (ev_tup (ea_cons (ev_tup (ea_cons (ev_int (ea_cons (ev_int (ea_nil ⟨by simp, ?_⟩))))))))
  refine ea_cons (ev_tup (ea_cons (ev_int (ea_cons (ev_int (ea_nil ⟨by simp, ea_nil ⟨by simp, ea_nil ⟨by simp, ?_⟩⟩⟩))))))
  refine ea_cons (ev_op (ev_int (ev_int (rok_i (C := CPow) ⟨by decide, by decide, by decide⟩ ?_))))
  refine ea_cons (ev_tup (ea_cons (ev_bl (ea_cons (ev_int (ea_nil ⟨by simp, ?_⟩))))))
  refine ea_cons (ev_tup (ea_cons (ev_str (ea_cons (ev_int (ea_nil ⟨by simp, ?_⟩))))))
  refine ea_cons (ev_tup (ea_cons (ev_str (ea_cons (ev_bl (ea_nil ⟨by simp, ?_⟩))))))
  refine ea_cons (ev_disp1 ?_)
  refine ea_nil ⟨by simp, ro_catL (by simp) ?_⟩
  refine st_ret (ev_callW rfl (ea_cons (ev_op (ev_var rfl (ev_lst ?_)))))
  refine ea_cons (ev_tup (ea_cons (ev_tup (ea_nil ⟨by simp, ?_⟩))))
  refine ea_cons (ev_tup (ea_cons (ev_tup (ea_cons (ev_int (ea_cons (ev_int (ea_nil ⟨by simp, ea_nil ⟨by simp, ea_nil ⟨by simp, ?_⟩⟩⟩))))))))
  refine ea_cons (ev_tup (ea_cons (ev_tup (ea_cons (ev_tup (ea_cons (ev_int (ea_cons (ev_int (ea_nil ⟨by simp, ea_nil ⟨by simp, ?_⟩⟩))))))))))
  refine ea_cons (ev_tup (ea_cons (ev_tup (ea_cons (ev_int (ea_cons (ev_int (ea_nil ⟨by simp, ea_nil ⟨by simp, ea_nil ⟨by simp, ?_⟩⟩⟩))))))))
  refine ea_cons (ev_str ?_)
  refine ea_nil ⟨by simp, ro_catL (by simp) ?_⟩
  refine ea_nil ⟨⟨_, rfl, by simp, by simp⟩, fun d ⟨xs, ex, hd⟩ => ?_⟩
  cases ex
  have all : ∀ L : List PyData, (L.all fun x => okB 6 x || isDicB x) = true → ∀ d ∈ L, (okB 6 d || isDicB d) = true := fun L h => List.all_eq_true.mp h
  refine fin d (all _ ?_ d hd)
  decide +kernel
theorem ok__law_odd (T : Tx K mg) : FnOk P w K mg base CX0 3 T.a__law_odd T.d__law_odd p__law_odd (sp__law_odd K) := by
  refine T.F__law_odd.ok sc__law_odd (fun vs H Q E h => len__law_odd K vs H Q E h) (fun cdv A outer s H vs Q E hr h => ?_)
  exact ⟨t__law_odd K, (pss_cons (ps_set (i := 1) sc__law_odd.nd rfl (Or.inl rfl) (pe_lst (pa_cons pe_non (pa_cons pe_bl (pa_cons pe_bl (pa_cons pe_int (pa_cons (pe_un un_neg pe_int) (pa_cons pe_int (pa_cons pe_str (pa_cons pe_str (pa_cons (pe_tup pa_nil) (pa_cons (pe_tup (pa_cons pe_int pa_nil)) (pa_cons (pe_tup (pa_cons pe_int (pa_cons pe_int pa_nil))) (pa_cons (pe_tup (pa_cons pe_int (pa_cons pe_int pa_nil))) (pa_cons (pe_tup (pa_cons pe_int (pa_cons pe_int pa_nil))) (pa_cons (pe_tup (pa_cons pe_int (pa_cons pe_int pa_nil))) (pa_cons (pe_tup (pa_cons (pe_un un_neg pe_int) (pa_cons pe_int pa_nil))) (pa_cons (pe_lst (pa_cons pe_int (pa_cons pe_int pa_nil))) (pa_cons pe_dnewK pa_nil)))))))))))))))))))
  (pss_cons (ps_set (i := 1) sc__law_odd.nd rfl (Or.inl rfl) (pe_op op_addA (pv 1) (pe_lst (pa_cons (pe_tup (pa_cons (pe_tup (pa_cons pe_int (pa_cons pe_int pa_nil))) pa_nil)) (pa_cons (pe_tup (pa_cons (pe_tup (pa_cons (pe_tup (pa_cons pe_int (pa_cons pe_int pa_nil))) pa_nil)) (pa_cons (pe_tup (pa_cons (pe_tup (pa_cons pe_int (pa_cons pe_int pa_nil))) (pa_cons (pe_tup (pa_cons pe_int (pa_cons pe_int pa_nil))) pa_nil))) pa_nil))) (pa_cons (pe_op op_pow pe_int pe_int) (pa_cons (pe_tup (pa_cons pe_bl (pa_cons pe_int pa_nil))) (pa_cons (pe_tup (pa_cons pe_str (pa_cons pe_int pa_nil))) (pa_cons (pe_tup (pa_cons pe_str (pa_cons pe_bl pa_nil))) (pa_cons (pe_disp (pps_cons pe_str pe_int pps_nil) (by rfl) (by rfl) (by simp) (by decide)) pa_nil))))))))))
  (pss_one (ps_ret (pe_call (ok__law_any T) (hr.mono (by decide)) rfl T.g__law_any T.F__law_any.kp (b__law_any T) .nil pass0 (pa_cons (pv 0) (pa_cons (pe_op op_addA (pv 1) (pe_lst (pa_cons (pe_tup (pa_cons (pe_tup pa_nil) (pa_cons (pe_tup (pa_cons (pe_tup (pa_cons pe_int (pa_cons pe_int pa_nil))) pa_nil)) pa_nil))) (pa_cons (pe_tup (pa_cons (pe_tup (pa_cons (pe_tup (pa_cons pe_int (pa_cons pe_int pa_nil))) pa_nil)) (pa_cons (pe_tup (pa_cons (pe_tup (pa_cons pe_int (pa_cons pe_int pa_nil))) pa_nil)) pa_nil))) (pa_cons pe_str pa_nil))))) pa_nil))))))), pure__law_odd K vs H Q E h⟩
/-! ### _law_warped -/
theorem warp {xs l : List PyData} (hl : l.length ≤ 2 * xs.length + 1) (h : ∀ y ∈ l, y ∈ xs ∨ ∀ c m, 1 ≤ c → OkC c (m + 1) (.tuple xs) → OkC (3 * c) (m + 1) y) : ∀ c m, 1 ≤ c → (∀ x ∈ [PyData.tuple xs], OkC c (m + 1) x) → OkC (3 * c) (m + 2) (.tuple l) := fun c m hc hx => by
  have hx := hx _ (List.mem_cons_self ..)
  obtain ⟨a, b⟩ := hx.items
  refine .inr ⟨l, .inl rfl, by omega, fun y hy => ?_⟩
  rcases h y hy with q | q
  · exact ((b y q).wide (by omega)).succ
  · exact q c m hc hx
theorem cut_two (xs : List PyData) (j : Nat) : (DL.cutD xs none (some (j : Int))).length + (DL.cutD xs (some ((j : Int) + 1)) none).length ≤ 2 * xs.length := by
  have c1 := cutD_le xs none (some (j : Int))
  have c2 := cutD_le xs (some ((j : Int) + 1)) none
  omega

def pre__law_warped : Nat → List PyData → Prop
  | 0, _ => False
  | n + 1, ds => (fun n ds => ∃ xs, ds = [.tuple xs] ∧ OkC 100000 (n + 1) (.tuple xs)) n ds
def post__law_warped : List PyData → PyData → Prop := fun ds d => ∀ c m, 1 ≤ c → (∀ x ∈ ds, OkC c (m + 1) x) → OkC (3 * c) (m + 2) d
abbrev spr__law_warped (K : PySem.W.Frag) (n : Nat) : Sp := SpW K (pre__law_warped n) post__law_warped
abbrev sp__law_warped (K : PySem.W.Frag) : Sp := spr__law_warped K 8
theorem len__law_warped (K : PySem.W.Frag) (m : Nat) (vs : List V) (H : Hp) (Q : VK) (E : XK) (h : spr__law_warped K m vs H Q E) : vs.length = p__law_warped.length := len_W (n := 1) h fun ds hp => by
  cases m with
  | zero => exact hp.elim
  | succ n =>
    obtain ⟨xs, e, ho⟩ := hp
    rw [e]; rfl
def t__law_warped (K : PySem.W.Frag) (n : Nat) : TS :=
  (tSeq (tPar 2 3 (tCons (tCall (sp__law_wind K) [] E0 (tCons (tVar 0) (tCons (tC (.int 6)) tNil))) (tCons (tCall (sp__law_wind K) [] E0 (tCons (tVar 0) (tCons (tCB rMax2Q (tCons (tC (.int 1)) (tCons (tCB (rLenQ K) (tCons (tVar 1) tNil)) tNil))) tNil))) tNil)))
  (tSeq (tAsg (tCall (sp__law_any K) [] E0 (tCons (tVar 0) (tCons (tLst (tCons (tC .non) (tCons (tC (.bl true)) (tCons (tC (.int 0)) (tCons (tUn (rU fun i => .int (-i)) (tC (.int 1))) (tCons (tC (.str ("1" : Str))) (tCons (tTup (tCons (tC (.int 0)) (tCons (tC (.int 1)) tNil))) (tCons (tTup (tCons (tC (.int 1)) (tCons (tC (.int 1)) tNil))) (tCons (tTup (tCons (tC (.int 2)) (tCons (tC (.int 2)) tNil))) (tCons (tTup (tCons (tUn (rU fun i => .int (-i)) (tC (.int 1))) (tCons (tC (.int 3)) tNil))) (tCons (tTup tNil) (tCons (tLst (tCons (tC (.int 1)) (tCons (tC (.int 1)) tNil))) tNil)))))))))))) tNil))) (gName 4))
  (tSeq (tIfS (tTest (tOp rEq (tVar 2) (tC (.int 0)))) (tRet (tCB (rListQ K) (tCons (tVar 1) tNil))) tNext)
  (tSeq (tIfS (tTest (tOp rEq (tVar 2) (tC (.int 1)))) (tRet (tOp (rAddA K) (tSl (rSlX2 K) (tVar 1) tNoPart (tPart (tVar 3))) (tSl (rSlX2 K) (tVar 1) (tPart (tOp (rAddA K) (tVar 3) (tC (.int 1)))) tNoPart))) tNext)
  (tSeq (tIfS (tOr (tTest (tOp rEq (tVar 2) (tC (.int 2)))) (tTest (tOp rEq (tCB (rLenQ K) (tCons (tVar 1) tNil)) (tC (.int 0))))) (tRet (tOp (rAddA K) (tOp (rAddA K) (tSl (rSlX2 K) (tVar 1) tNoPart (tPart (tVar 3))) (tTup (tCons (tVar 4) tNil))) (tSl (rSlX2 K) (tVar 1) (tPart (tVar 3)) tNoPart))) tNext)
  (tSeq (tIfS (tAnd (tTest (tOp (rI0 fun i j => .bl (decide (i < j))) (tVar 2) (tC (.int 5)))) (tAnd (tB (tCB (rIsi K) (tCons (tOp (rIx K) (tVar 1) (tVar 3)) (tCons (tC (.ty "tuple")) tNil)))) (tTest (tOp (rI0 fun i j => .bl (decide (j < i))) (tCB (rLenQ K) (tCons (tOp (rIx K) (tVar 1) (tVar 3)) tNil)) (tC (.int 0)))))) (tRet (tOp (rAddA K) (tOp (rAddA K) (tSl (rSlX2 K) (tVar 1) tNoPart (tPart (tVar 3))) (tTup (tCons (tCall (spr__law_warped K n) [] E0 (tCons (tVar 0) (tCons (tOp (rIx K) (tVar 1) (tVar 3)) tNil))) tNil))) (tSl (rSlX2 K) (tVar 1) (tPart (tOp (rAddA K) (tVar 3) (tC (.int 1)))) tNoPart))) tNext)
  (tRet (tOp (rAddA K) (tOp (rAddA K) (tSl (rSlX2 K) (tVar 1) tNoPart (tPart (tVar 3))) (tTup (tCons (tVar 4) tNil))) (tSl (rSlX2 K) (tVar 1) (tPart (tOp (rAddA K) (tVar 3) (tC (.int 1)))) tNoPart)))))))))
theorem pure__law_warped (K : PySem.W.Frag) (n : Nat) (vs : List V) (H : Hp) (Q : VK) (E : XK) (h : spr__law_warped K (n + 1) vs H Q E) : t__law_warped K n { nx := fun _ H' => Q .non H', rt := Q } (L2.start N__law_warped vs) H := body_W h (by decide) fun B w ds hp => by
  obtain ⟨xs, e, ho⟩ := hp
  subst e
  unfold t__law_warped

  have xl : xs.length ≤ 100000 := ho.items.1
  refine st_seq (st_par (ea_cons (ev_callW rfl (ea_cons (ev_int (ea_nil ⟨⟨6, rfl, by decide, by decide⟩, fun d ⟨m', way, em, ed, w0, w1⟩ => ?_⟩))))))
  subst ed
  refine ea_cons (ev_callW rfl (ea_cons (ev_cb (ea_cons (ev_int (ea_cons (ev_cb (ea_cons (ev_var rfl (ea_nil (co_lenT (ea_nil (co_max (ea_nil ⟨⟨_, rfl, by split <;> omega, by split <;> omega⟩, fun d ⟨m2, at', em2, ed2, t0, t1⟩ => ?_⟩))))))))))))))
  simp only [List.cons.injEq, PyData.int.injEq, and_true] at em2
  subst ed2
  obtain ⟨j, rfl⟩ := Int.eq_ofNat_of_zero_le t0
  have jl : 0 < xs.length → j < xs.length := fun z => by
    rw [← em2] at t1
    split at t1 <;> omega
  refine ea_nil ⟨_, _, rfl, ?_⟩
  refine st_seq (st_asg (ev_callW rfl (ea_cons (ev_lst (ea_cons (ev_non (ea_cons (ev_bl (ea_cons (ev_int (ea_cons (ev_un (ev_int (uok_neg (ea_cons (ev_str ?_))))))))))))))))
  refine ea_cons (ev_tup (ea_cons (ev_int (ea_cons (ev_int (ea_nil ⟨by simp, ?_⟩))))))
  refine ea_cons (ev_tup (ea_cons (ev_int (ea_cons (ev_int (ea_nil ⟨by simp, ?_⟩))))))
  refine ea_cons (ev_tup (ea_cons (ev_int (ea_cons (ev_int (ea_nil ⟨by simp, ?_⟩))))))
  refine ea_cons (ev_tup (ea_cons (ev_un (ev_int (uok_neg (ea_cons (ev_int (ea_nil ⟨by simp, ?_⟩))))))))
  refine ea_cons (ev_tup (ea_nil ⟨by simp, ?_⟩))
  refine ea_cons (ev_lst (ea_cons (ev_int (ea_cons (ev_int (ea_nil ⟨by simp, ?_⟩))))))
  refine ea_nil ⟨by simp, ?_⟩
  refine ea_nil ⟨⟨_, rfl, by simp, by simp⟩, fun t ⟨ys, ey, hd⟩ => ?_⟩
  cases ey
  have all : ∀ L : List PyData, (L.all fun x => okB 1 x) = true → ∀ d ∈ L, okB 1 d = true := fun L h => List.all_eq_true.mp h
  have ht : OkC 3 1 t := okB_ok (all _ (by decide +kernel) t hd)
  have tt : ∀ c m, 1 ≤ c → OkC c (m + 1) (.tuple xs) → OkC (3 * c) (m + 1) t := fun c m hc _ => (ht.wide (by omega)).up (by omega)
  have c1 := cutD_le xs none (some (j : Int))
  have c2 := cutD_le xs (some ((j : Int) + 1)) none
  have c3 := cutD_le xs (some (j : Int)) none
  refine st_seq (st_if (et_test (ev_op (ev_var rfl (ev_int (rok_eqI ⟨_, rfl, fun _ => ?_, fun _ => st_next ?_⟩))))))
  · refine st_ret (ev_new (en_listQ (ev_var rfl ⟨_, .inl rfl, fun c m hc hx => ?_⟩)))
    obtain ⟨l, h⟩ := (hx _ (List.mem_cons_self ..)).items
    exact .inr ⟨xs, .inr rfl, by omega, fun y hy => ((h y hy).wide (by omega)).succ⟩
  refine st_seq (st_if (et_test (ev_op (ev_var rfl (ev_int (rok_eqI ⟨_, rfl, fun _ => ?_, fun _ => st_next ?_⟩))))))
  · refine st_ret (ev_op (ev_sl (ev_var rfl (eo_no (eo_some (ev_var rfl ⟨_, rfl, so_tup (ev_sl (ev_var rfl (eo_some (ev_op (ev_var rfl (ev_int (ro_add ⟨_, rfl, eo_no (so_tup (ro_catT (by omega) (warp (by rw [List.length_append]; have := cut_two xs j; omega) fun y hy => .inl ?_)))⟩)))))))⟩))))))
    rcases List.mem_append.mp hy with q | q
    · exact cutD_mem q
    · exact cutD_mem q
  have three : ∀ (z : PyData) (lo : Int), (DL.cutD xs none (some (j : Int))).length + (DL.cutD xs (some lo) none).length ≤ 2 * xs.length → (∀ c m, 1 ≤ c → OkC c (m + 1) (.tuple xs) → OkC (3 * c) (m + 1) z) → ∀ c m, 1 ≤ c → (∀ x ∈ [PyData.tuple xs], OkC c (m + 1) x) → OkC (3 * c) (m + 2) (.tuple (DL.cutD xs none (some (j : Int)) ++ [z] ++ DL.cutD xs (some lo) none)) := fun z lo hl hz => warp (by rw [List.length_append, List.length_append]; show _ + 1 + _ ≤ _; omega) fun y hy => by
    rcases List.mem_append.mp hy with q | q
    · rcases List.mem_append.mp q with q | q
      · exact .inl (cutD_mem q)
      · rw [List.mem_singleton.mp q]
        exact .inr hz
    · exact .inl (cutD_mem q)
  refine st_seq (st_if (EvT.mono (kb := fun b => b = false → 0 < xs.length) ?_ fun b hb => ⟨fun _ => ?_, fun z => st_next ?_⟩))
  · refine et_or (et_test (ev_op (ev_var rfl (ev_int (rok_eqI ⟨_, rfl, fun _ => ?_, fun _ z => nomatch z⟩)))))
    refine et_test (ev_op (ev_cb (ea_cons (ev_var rfl (ea_nil (co_lenT (ev_int (rok_eqI ⟨_, rfl, fun z => ?_⟩))))))))
    have := of_decide_eq_false z
    omega
  · exact st_ret (ev_op (ev_op (ev_sl (ev_var rfl (eo_no (eo_some (ev_var rfl ⟨_, rfl, so_tup (ev_tup (ea_cons (ev_var rfl (ea_nil ⟨by simp, ro_catT (by show _ + 1 ≤ _; omega) (ev_sl (ev_var rfl (eo_some (ev_var rfl ⟨_, rfl, eo_no (so_tup (ro_catT (by rw [List.length_append]; show _ + 1 + _ ≤ _; omega) (three t _ (by omega) tt)))⟩))))⟩))))⟩)))))))
  have jx := jl (hb z)
  obtain ⟨v, hv⟩ : ∃ v, xs[j]? = some v := ⟨_, List.getElem?_eq_getElem jx⟩
  have vm := List.mem_of_getElem? hv
  clear hb z
  refine st_seq (st_if (EvT.mono (kb := fun b => b = true → ∃ ys, v = .tuple ys ∧ ys ≠ []) ?_ fun b hb => ⟨fun z => ?_, fun _ => st_next ?_⟩))
  · refine et_and (et_test (ev_op (ev_var rfl (ev_int (rok_b0 ⟨_, rfl, fun _ => ?_, fun _ z => nomatch z⟩)))))
    refine et_and (et_B (ev_isiTup (ev_op (ev_var rfl (ev_var rfl (rok_ixsT (d := v) (by rw [atI_nat hv]) ⟨_, rfl, fun hb => ?_, fun _ z => nomatch z⟩))))))
    obtain ⟨ys, rfl⟩ := isTupT_true hb
    refine et_test (ev_op (ev_cb (ea_cons (ev_op (ev_var rfl (ev_var rfl (rok_ixsT (d := .tuple ys) (by rw [atI_nat hv]) (ea_nil (co_lenT (ev_int (rok_b0 ⟨_, rfl, fun z => ⟨ys, rfl, ?_⟩⟩)))))))))))
    intro q
    rw [q] at z
    cases z
  · obtain ⟨ys, rfl, yn⟩ := hb z
    have hy := ho.items.2 _ vm
    obtain ⟨n', rfl⟩ : ∃ n', n = n' + 1 := by
      cases n with
      | zero => exact hy.elim
      | succ n' => exact ⟨n', rfl⟩
    refine st_ret (ev_op (ev_op (ev_sl (ev_var rfl (eo_no (eo_some (ev_var rfl ⟨_, rfl, so_tup (ev_tup (ea_cons (ev_callW rfl (ea_cons (ev_op (ev_var rfl (ev_var rfl (rok_ixsT (d := .tuple ys) (by rw [atI_nat hv]) (ea_nil ⟨⟨ys, rfl, hy⟩, fun d hd => ?_⟩)))))))))⟩)))))))
    refine ea_nil ⟨by simp, ro_catT (by show _ + 1 ≤ _; omega) (ev_sl (ev_var rfl (eo_some (ev_op (ev_var rfl (ev_int (ro_add ⟨_, rfl, eo_no (so_tup (ro_catT (by rw [List.length_append]; show _ + 1 + _ ≤ _; omega) (three d _ (by omega) fun c m hc hx => ?_)))⟩)))))))⟩
    have hx2 := hx.items.2 _ vm
    obtain ⟨k, rfl⟩ : ∃ k, m = k + 1 := by
      cases m with
      | zero => exact hx2.elim
      | succ k => exact ⟨k, rfl⟩
    refine hd c k hc fun x hx => ?_
    rw [List.mem_singleton.mp hx]
    exact hx2
  · exact st_ret (ev_op (ev_op (ev_sl (ev_var rfl (eo_no (eo_some (ev_var rfl ⟨_, rfl, so_tup (ev_tup (ea_cons (ev_var rfl (ea_nil ⟨by simp, ro_catT (by show _ + 1 ≤ _; omega) (ev_sl (ev_var rfl (eo_some (ev_op (ev_var rfl (ev_int (ro_add ⟨_, rfl, eo_no (so_tup (ro_catT (by rw [List.length_append]; show _ + 1 + _ ≤ _; omega) (three t _ (by omega) tt)))⟩)))))))⟩))))⟩)))))))

theorem okr__law_warped (T : Tx K mg) : ∀ n : Nat, FnOk P w K mg base CX0 (3 + n) T.a__law_warped T.d__law_warped p__law_warped (spr__law_warped K n)
  | 0 => by
    refine T.F__law_warped.ok sc__law_warped (fun vs H Q E h => len__law_warped K 0 vs H Q E h) (fun cdv A outer s H vs Q E hr h => ?_)
    exact (noW h (fun ds hp => hp)).elim
  | n + 1 => by
    refine T.F__law_warped.ok sc__law_warped (fun vs H Q E h => len__law_warped K (n + 1) vs H Q E h) (fun cdv A outer s H vs Q E hr h => ?_)
    exact ⟨t__law_warped K n, (pss_cons (ps_par (by rfl) sc__law_warped.nd rfl rfl (by decide) rfl rfl (pa_cons (pe_call (ok__law_wind T) (hr.mono (by first | omega | exact Nat.le_refl _ | (simp only [Nat.add_eq]; omega))) rfl T.g__law_wind T.F__law_wind.kp (b__law_wind T) .nil pass0 (pa_cons (pv 0) (pa_cons pe_int pa_nil))) (pa_cons (pe_call (ok__law_wind T) (hr.mono (by first | omega | exact Nat.le_refl _ | (simp only [Nat.add_eq]; omega))) rfl T.g__law_wind T.F__law_wind.kp (b__law_wind T) .nil pass0 (pa_cons (pv 0) (pa_cons (pe_callB (call_max2 rfl) (by rfl) T.n_max (by decide +kernel) (pa_cons pe_int (pa_cons (pe_callB call_len_seq (by rfl) T.n_len (by decide +kernel) (pa_cons (pv 1) pa_nil)) pa_nil))) pa_nil))) pa_nil)) (by rfl))
  (pss_cons (ps_set (i := 4) sc__law_warped.nd rfl (Or.inl rfl) (pe_call (ok__law_any T) (hr.mono (by first | omega | exact Nat.le_refl _ | (simp only [Nat.add_eq]; omega))) rfl T.g__law_any T.F__law_any.kp (b__law_any T) .nil pass0 (pa_cons (pv 0) (pa_cons (pe_lst (pa_cons pe_non (pa_cons pe_bl (pa_cons pe_int (pa_cons (pe_un un_neg pe_int) (pa_cons pe_str (pa_cons (pe_tup (pa_cons pe_int (pa_cons pe_int pa_nil))) (pa_cons (pe_tup (pa_cons pe_int (pa_cons pe_int pa_nil))) (pa_cons (pe_tup (pa_cons pe_int (pa_cons pe_int pa_nil))) (pa_cons (pe_tup (pa_cons (pe_un un_neg pe_int) (pa_cons pe_int pa_nil))) (pa_cons (pe_tup pa_nil) (pa_cons (pe_lst (pa_cons pe_int (pa_cons pe_int pa_nil))) pa_nil)))))))))))) pa_nil))))
  (pss_cons (ps_if (pt_cmpR op_eq (pv 2) pe_int (nomark _)) (pss_one (ps_ret (pe_callTy call_list_of (by rfl) T.n_list (by decide +kernel) (pa_cons (pv 1) pa_nil)))) pss_nil)
  (pss_cons (ps_if (pt_cmpR op_eq (pv 2) pe_int (nomark _)) (pss_one (ps_ret (pe_op op_addA (pe_slice sl_any (pv 1) po_none (po_some (pv 3))) (pe_slice sl_any (pv 1) (po_some (pe_op op_addA (pv 3) pe_int)) po_none)))) pss_nil)
  (pss_cons (ps_if (PW.pt (pw_or (pt_cmpR op_eq (pv 2) pe_int (nomark _)) (pw_or1 (pt_cmpR op_eq (pe_callB call_len_seq (by rfl) T.n_len (by decide +kernel) (pa_cons (pv 1) pa_nil)) pe_int (nomark _))))) (pss_one (ps_ret (pe_op op_addA (pe_op op_addA (pe_slice sl_any (pv 1) po_none (po_some (pv 3))) (pe_tup (pa_cons (pv 4) pa_nil))) (pe_slice sl_any (pv 1) (po_some (pv 3)) po_none)))) pss_nil)
  (pss_cons (ps_if (PW.pt (pw_and (pt_cmpR op_lt (pv 2) pe_int (nomark _)) (pw_and (pt_val (pe_callB call_isi (by rfl) T.n_isinstance (by decide +kernel) (pa_cons (pe_ix ix_seq (pv 1) (pv 3) (fun _ _ => rfl)) (pa_cons (pe_bltn (v := .ty "tuple") (by rfl) T.n_tuple (by decide +kernel) rfl) pa_nil)))) (pw_and1 (pt_cmpR op_gt (pe_callB call_len_seq (by rfl) T.n_len (by decide +kernel) (pa_cons (pe_ix ix_seq (pv 1) (pv 3) (fun _ _ => rfl)) pa_nil)) pe_int (nomark _)))))) (pss_one (ps_ret (pe_op op_addA (pe_op op_addA (pe_slice sl_any (pv 1) po_none (po_some (pv 3))) (pe_tup (pa_cons (pe_call (okr__law_warped T n) (hr.mono (by first | omega | exact Nat.le_refl _ | (simp only [Nat.add_eq]; omega))) rfl T.g__law_warped T.F__law_warped.kp (b__law_warped T) .nil pass0 (pa_cons (pv 0) (pa_cons (pe_ix ix_seq (pv 1) (pv 3) (fun _ _ => rfl)) pa_nil))) pa_nil))) (pe_slice sl_any (pv 1) (po_some (pe_op op_addA (pv 3) pe_int)) po_none)))) pss_nil)
  (pss_one (ps_ret (pe_op op_addA (pe_op op_addA (pe_slice sl_any (pv 1) po_none (po_some (pv 3))) (pe_tup (pa_cons (pv 4) pa_nil))) (pe_slice sl_any (pv 1) (po_some (pe_op op_addA (pv 3) pe_int)) po_none)))))))))), pure__law_warped K n vs H Q E h⟩
theorem ok__law_warped (T : Tx K mg) : FnOk P w K mg base CX0 11 T.a__law_warped T.d__law_warped p__law_warped (sp__law_warped K) := okr__law_warped T 8
/-! ### _law_beyond -/
theorem beyond_sz {x q t : Fr} (a : x.1.natAbs < 2 ^ 9) (b : x.2.natAbs < 2 ^ 9) (c : q.1.natAbs < 2 ^ 30) (d : q.2.natAbs < 2 ^ 10) (h : t.1.natAbs ≤ (x.1 * q.2 + q.1 * x.2).natAbs) (k : t.2.natAbs ≤ (x.2 * q.2).natAbs) : t.1.natAbs < 18446744073709551616 ∧ t.2.natAbs < 18446744073709551616 := by
  have h1 := natAbs_mul_lt a d
  have h2 := natAbs_mul_lt c b
  have h3 := natAbs_mul_lt b d
  have q29 : (2 : Nat) ^ (9 + 10) = 524288 := rfl
  have q30 : (2 : Nat) ^ (30 + 9) = 549755813888 := rfl
  exact ⟨by omega, by omega⟩

def pre__law_beyond : List PyData → Prop := fun ds => ∃ dd ss ee ts ff us : List Fr, ds = [.tuple [lineD dd ss, lineD ee ts], lineD ff us] ∧ LQ dd ss ∧ LQ ee ts ∧ LN ff us ∧ ff.length = dd.length ∧ dd.length = ee.length
def post__law_beyond : List PyData → PyData → Prop := fun ds d => ∃ ff us : List Fr, d = lineD ff us ∧ LN ff us
abbrev sp__law_beyond (K : PySem.W.Frag) : Sp := SpW K pre__law_beyond post__law_beyond
theorem len__law_beyond (K : PySem.W.Frag) (vs : List V) (H : Hp) (Q : VK) (E : XK) (h : sp__law_beyond K vs H Q E) : vs.length = p__law_beyond.length := len_W (n := 2) h fun ds hp => by
  obtain ⟨dd, ss, ee, ts, ff, us, e, h1, h2, h3, l1, l2⟩ := hp
  rw [e]; rfl
def t__law_beyond (K : PySem.W.Frag) : TS :=
  (tSeq (tAsg (tCall (sp__law_any K) [] E0 (tCons (tVar 0) (tCons (tCall (sp__law_slots K) [] E0 (tCons (tVar 2) tNil)) tNil))) (gName 3))
  (tSeq (tAsg (tCall (sp__law_held K) [] E0 (tCons (tIf (tTest (tOp rEq (tOp (rIx K) (tVar 3) (tC (.int 0))) (tC (.str ("disc" : Str))))) (tOp (rIx K) (tVar 1) (tC (.int 0))) (tOp (rIx K) (tVar 1) (tC (.int 1)))) (tCons (tVar 3) tNil))) (gName 4))
  (tRet (tCall (sp__law_put K) [] E0 (tCons (tVar 2) (tCons (tVar 3) (tCons (tCall (sp__law_sum K) [] E0 (tCons (tVar 4) (tCons (tCall (sp__law_any K) [] E0 (tCons (tVar 0) (tCons (tLst (tCons (tTup (tCons (tC (.int 1)) (tCons (tC (.int 1)) tNil))) (tCons (tTup (tCons (tC (.int 1)) (tCons (tC (.int 1000)) tNil))) (tCons (tTup (tCons (tOp (rI CPow fun i j => .int (i ^ j.toNat)) (tC (.int 10)) (tC (.int 9))) (tCons (tC (.int 1)) tNil))) tNil)))) tNil))) tNil))) tNil)))))))
theorem pure__law_beyond (K : PySem.W.Frag) (vs : List V) (H : Hp) (Q : VK) (E : XK) (h : sp__law_beyond K vs H Q E) : t__law_beyond K { nx := fun _ H' => Q .non H', rt := Q } (L2.start N__law_beyond vs) H := body_W h (by decide) fun B w ds hp => by
  obtain ⟨dd, ss, ee, ts, ff, us, e, h1, h2, h3, l1, l2⟩ := hp
  subst e
  unfold t__law_beyond

  have c8 := h3.c8
  refine st_seq (st_asg (ev_callW rfl (ea_cons (ev_callP (ea_cons (ev_var rfl (ea_nil ⟨⟨ff, us, rfl, c8⟩, fun d ⟨d1, s1, e, ed⟩ => ?_⟩)))))))
  obtain ⟨rfl, rfl⟩ := lineD_inj e
  subst ed
  rw [slots_is]
  refine ea_nil ⟨⟨_, rfl, by rw [List.length_map, slotsOf_len]; omega, by rw [List.length_map, slotsOf_len]; omega⟩, fun d ⟨xs, ex, hd⟩ => ?_⟩
  cases ex
  obtain ⟨⟨b, j⟩, pm, rfl⟩ := List.mem_map.mp hd
  have k3 := slot_ok h3.len pm
  have k1 : slotOk dd ss b j := slot_ok h1.1.len (by rw [← l1]; exact pm)
  have k2 : slotOk ee ts b j := slot_ok h2.1.len (by rw [← l2, ← l1]; exact pm)
  refine st_mid (fun L2 Γ2 => ∃ y : Fr, L2 = [] ∧ Γ2 = [.well w, .d (.tuple [lineD dd ss, lineD ee ts]), .d (lineD ff us), .d (slotP (b, j)), .d (frD y)] ∧ FOk y ∧ 0 ≤ y.1 ∧ y.1.natAbs < 2 ^ 9 ∧ y.2.natAbs < 2 ^ 9) ?_ ?_
  · cases b with
    | true =>
      refine st_asg (ev_callP (ea_cons (ev_if (et_test (ev_op (ev_op (ev_var rfl (ev_int (rok_ixsT (d := .str ("disc" : Str)) rfl (ev_str (rok_eqS ⟨_, rfl, fun _ => ?_, fun hb => absurd (of_decide_eq_false hb) (fun z => z rfl)⟩)))))))))))
      refine ev_op (ev_var rfl (ev_int (rok_ixsT (d := lineD dd ss) rfl (ea_cons (ev_var rfl (ea_nil ⟨⟨dd, ss, true, j, rfl, k1⟩, fun d ⟨d1, s1, b1, i1, e, ed⟩ => ?_⟩))))))
      obtain ⟨rfl, rfl, rfl, rfl⟩ := ls_inj e
      subst ed
      exact ⟨_, rfl, rfl, (h1.1.held k1).1, (h1.1.held k1).2.1, (h1.held k1).1, (h1.held k1).2⟩
    | false =>
      refine st_asg (ev_callP (ea_cons (ev_if (et_test (ev_op (ev_op (ev_var rfl (ev_int (rok_ixsT (d := .str ("shaft" : Str)) rfl (ev_str (rok_eqS ⟨_, rfl, fun hb => absurd (of_decide_eq_true hb) (by decide), fun _ => ?_⟩)))))))))))
      refine ev_op (ev_var rfl (ev_int (rok_ixsT (d := lineD ee ts) rfl (ea_cons (ev_var rfl (ea_nil ⟨⟨ee, ts, false, j, rfl, k2⟩, fun d ⟨d1, s1, b1, i1, e, ed⟩ => ?_⟩))))))
      obtain ⟨rfl, rfl, rfl, rfl⟩ := ls_inj e
      subst ed
      exact ⟨_, rfl, rfl, (h2.1.held k2).1, (h2.1.held k2).2.1, (h2.held k2).1, (h2.held k2).2⟩
  rintro L2 Γ2 ⟨y, rfl, rfl, fy, y0, y1, y2⟩
  have fy1 := fy.1
  refine st_ret (ev_callP (ea_cons (ev_var rfl (ea_cons (ev_var rfl (ea_cons (ev_callP (ea_cons (ev_var rfl (ea_cons (ev_callW rfl (ea_cons (ev_lst (ea_cons (ev_tup (ea_cons (ev_int (ea_cons (ev_int (ea_nil ⟨by simp, ?_⟩))))))))))))))))))))
  refine ea_cons (ev_tup (ea_cons (ev_int (ea_cons (ev_int (ea_nil ⟨by simp, ?_⟩))))))
  refine ea_cons (ev_tup (ea_cons (ev_op (ev_int (ev_int (rok_i (C := CPow) ⟨by decide, by decide, by decide⟩ (ea_cons (ev_int (ea_nil ⟨by simp, ?_⟩)))))))))
  refine ea_nil ⟨by simp, ?_⟩
  refine ea_nil ⟨⟨_, rfl, by simp, by simp⟩, fun d ⟨xs, ex, hd⟩ => ?_⟩
  cases ex
  obtain ⟨k, rfl, hk⟩ : ∃ k : Fr, d = frD k ∧ k ∈ ([(1, 1), (1, 1000), (10 ^ 9, 1)] : List Fr) := by
    have hd2 : d ∈ ([(1, 1), (1, 1000), (10 ^ 9, 1)] : List Fr).map frD := hd
    obtain ⟨k, h1, rfl⟩ := List.mem_map.mp hd2
    exact ⟨k, rfl, h1⟩
  obtain ⟨kf0, kf1, kf2, kf3⟩ : 0 < k.1 ∧ k.1.natAbs < 2 ^ 30 ∧ 0 < k.2 ∧ k.2.natAbs < 2 ^ 10 := (by decide : ∀ k ∈ ([(1, 1), (1, 1000), (10 ^ 9, 1)] : List Fr), 0 < k.1 ∧ k.1.natAbs < 2 ^ 30 ∧ 0 < k.2 ∧ k.2.natAbs < 2 ^ 10) k hk
  refine ea_nil ⟨⟨y, k, rfl, ⟨fy1, pow_up y1 (by decide), pow_up y2 (by decide)⟩, kf2, pow_up kf1 (by decide), pow_up kf3 (by decide)⟩, fun d ⟨x', y', t, e, ed, ft, vt, z5, z6⟩ => ?_⟩
  obtain ⟨rfl, rfl⟩ := frD2_inj e
  subst ed
  obtain ⟨ts1, ts2⟩ := beyond_sz y1 y2 kf1 kf3 z5 z6
  refine ea_nil ⟨⟨ff, us, b, j, t, rfl, k3⟩, fun d ⟨d1, s1, b1, i1, x1, e, ed⟩ => ?_⟩
  obtain ⟨rfl, rfl, rfl, rfl, rfl⟩ := put_inj e
  subst ed
  have t0 := ft.1
  have v1 : 0 ≤ val y := ((val_pos fy1).2.1).mpr y0
  have v2 : 0 < val k := ((val_pos kf2).1).mpr kf0
  have t1 : 0 < t.1 := ((val_pos t0).1).mp (by rw [vt]; grind)
  exact ⟨_, _, rfl, put_ln2 h3 ft (by omega) (by omega) (by omega) (fun _ => t1)⟩
theorem ok__law_beyond (T : Tx K mg) : FnOk P w K mg base CX0 4 T.a__law_beyond T.d__law_beyond p__law_beyond (sp__law_beyond K) := by
  refine T.F__law_beyond.ok sc__law_beyond (fun vs H Q E h => len__law_beyond K vs H Q E h) (fun cdv A outer s H vs Q E hr h => ?_)
  exact ⟨t__law_beyond K, (pss_cons (ps_set (i := 3) sc__law_beyond.nd rfl (Or.inl rfl) (pe_call (ok__law_any T) (hr.mono (by decide)) rfl T.g__law_any T.F__law_any.kp (b__law_any T) .nil pass0 (pa_cons (pv 0) (pa_cons (pe_call (ok__law_slots T) (hr.mono (by decide)) rfl T.g__law_slots T.F__law_slots.kp (b__law_slots T) .nil pass0 (pa_cons (pv 2) pa_nil)) pa_nil))))
  (pss_cons (ps_set (i := 4) sc__law_beyond.nd rfl (Or.inl rfl) (pe_call (ok__law_held T) (hr.mono (by decide)) rfl T.g__law_held T.F__law_held.kp (b__law_held T) .nil pass0 (pa_cons (pe_ifExp (pt_cmpR op_eq (pe_ix ix_seq (pv 3) pe_int (fun _ _ => rfl)) pe_str (nomark _)) (pe_ix ix_seq (pv 1) pe_int (fun _ _ => rfl)) (pe_ix ix_seq (pv 1) pe_int (fun _ _ => rfl))) (pa_cons (pv 3) pa_nil))))
  (pss_one (ps_ret (pe_call (ok__law_put T) (hr.mono (by decide)) rfl T.g__law_put T.F__law_put.kp (b__law_put T) .nil pass0 (pa_cons (pv 2) (pa_cons (pv 3) (pa_cons (pe_call (ok__law_sum T) (hr.mono (by decide)) rfl T.g__law_sum T.F__law_sum.kp (b__law_sum T) .nil pass0 (pa_cons (pv 4) (pa_cons (pe_call (ok__law_any T) (hr.mono (by decide)) rfl T.g__law_any T.F__law_any.kp (b__law_any T) .nil pass0 (pa_cons (pv 0) (pa_cons (pe_lst (pa_cons (pe_tup (pa_cons pe_int (pa_cons pe_int pa_nil))) (pa_cons (pe_tup (pa_cons pe_int (pa_cons pe_int pa_nil))) (pa_cons (pe_tup (pa_cons (pe_op op_pow pe_int pe_int) (pa_cons pe_int pa_nil))) pa_nil)))) pa_nil))) pa_nil))) pa_nil)))))))), pure__law_beyond K vs H Q E h⟩
/-! ### _law_right -/
theorem sho_bool (b : Bool) : Sho 0 1921 (.bool b) := ⟨rfl, rfl, Nat.le_refl _, by cases b <;> decide⟩
theorem no_ne34 {a b : PySem.Str} (e : a = b) (h : (!decide (a = b)) = true) : False := by
  rw [decide_eq_true e] at h
  cases h
theorem sho_l3 {x y z : PyData} {e c : Nat} (hx : Sho e c x) (hy : Sho e c y) (hz : Sho e c z) : Sho (e + 1) ((c + 2) * 3 + 3) (.list [x, y, z]) := sho_lst (ds := [x, y, z]) fun d hd => by
  simp only [List.mem_cons, List.not_mem_nil, or_false] at hd
  rcases hd with rfl | rfl | rfl
  · exact hx
  · exact hy
  · exact hz
theorem sho_l2 {x y : PyData} {e c : Nat} (hx : Sho e c x) (hy : Sho e c y) : Sho (e + 1) ((c + 2) * 2 + 3) (.list [x, y]) := sho_lst (ds := [x, y]) fun d hd => by
  simp only [List.mem_cons, List.not_mem_nil, or_false] at hd
  rcases hd with rfl | rfl
  · exact hx
  · exact hy
theorem bl_inj {a b c d e f a' b' c' d' e' f' : List Fr} (h : [PyData.tuple [lineD a b, lineD c d], lineD e f] = [.tuple [lineD a' b', lineD c' d'], lineD e' f']) : a = a' ∧ b = b' ∧ c = c' ∧ d = d' ∧ e = e' ∧ f = f' := by
  have h1 := PyData.tuple.inj (List.cons.inj h).1
  have h2 := (List.cons.inj h).2
  obtain ⟨rfl, rfl, rfl, rfl⟩ := ll_inj h1
  obtain ⟨rfl, rfl⟩ := lineD_inj h2
  exact ⟨rfl, rfl, rfl, rfl, rfl, rfl⟩

def pre__law_right : List PyData → Prop := fun ds => True ∧ ds = []
def post__law_right : List PyData → PyData → Prop := fun ds d => d = .bool true
abbrev sp__law_right (K : PySem.W.Frag) : Sp := SpW K pre__law_right post__law_right
theorem len__law_right (K : PySem.W.Frag) (vs : List V) (H : Hp) (Q : VK) (E : XK) (h : sp__law_right K vs H Q E) : vs.length = p__law_right.length := len_W (n := 0) h fun ds hp => by
  obtain ⟨_, e⟩ := hp
  rw [e]; rfl
def t__law_right (K : PySem.W.Frag) : TS :=
  (tSeq (tAsg (tCall (sp__law_pair_box K) [] E0 (tCons (tVar 0) tNil)) (gName 1))
  (tSeq (tAsg (tCall (sp__law_within K) [] E0 (tCons (tVar 0) (tCons (tVar 1) tNil))) (gName 2))
  (tSeq (tFor (iList K (tLst (tCons (tVar 2) (tCons (tOp (rIx K) (tVar 1) (tC (.int 0))) (tCons (tOp (rIx K) (tVar 1) (tC (.int 1))) (tCons (tCall (sp__law_beyond K) [] E0 (tCons (tVar 0) (tCons (tVar 1) (tCons (tVar 2) tNil)))) (tCons (tCall (sp__law_line K) [] E0 (tCons (tVar 0) tNil)) tNil))))))) (gName 3) (tSeq (tAsg (tCall (sp__law_is_within K) [] E0 (tCons (tVar 1) (tCons (tVar 3) tNil))) (gName 4))
  (tIfS (tTest (tOp rNe (tCB (rReprD K) (tCons (tLst (tCons (tCall (sp_is_in_box K) [] E0 (tCons (tVar 1) (tCons (tVar 3) tNil))) (tCons (tCallN (sp_is_in_box K) (gPV 0 2 [1, 0]) E0 (tCons (tVar 3) (tCons (tVar 1) tNil))) tNil))) tNil)) (tCB (rReprD K) (tCons (tLst (tCons (tVar 4) (tCons (tVar 4) tNil))) tNil)))) (tRet (tC (.bl false))) tNext)))
  (tSeq (tAsg (tLst (tCons (tVar 1) (tCons (tTup (tCons (tOp (rIx K) (tVar 1) (tC (.int 1))) (tCons (tOp (rIx K) (tVar 1) (tC (.int 0))) tNil))) (tCons (tTup (tCons (tVar 2) (tCons (tOp (rIx K) (tVar 1) (tC (.int 1))) tNil))) (tCons (tTup (tCons (tOp (rIx K) (tVar 1) (tC (.int 0))) (tCons (tVar 2) tNil))) (tCons (tCall (sp__law_warped K) [] E0 (tCons (tVar 0) (tCons (tVar 1) tNil))) (tCons (tCall (sp__law_odd K) [] E0 (tCons (tVar 0) tNil)) tNil))))))) (gName 5))
  (tSeq (tFor (iList K (tOp (rAddA K) (tVar 5) (tLst (tCons (tTup (tCons (tVar 2) (tCons (tVar 2) tNil))) (tCons (tTup (tCons (tVar 2) (tCons (tCall (sp__law_line K) [] E0 (tCons (tVar 0) tNil)) tNil))) (tCons (tOp (rIx K) (tVar 1) (tC (.int 0))) tNil)))))) (gName 3) (tIfS (tTest (tOp rNe (tCB (rReprD K) (tCons (tLst (tCons (tCall (sp_is_box K) [] E0 (tCons (tVar 3) tNil)) (tCons (tCallK0 (sp_is_box K) E0 (tCons (tVar 3) tNil)) tNil))) tNil)) (tCB (rReprD K) (tCons (tOp (rMulA K) (tLst (tCons (tCall (sp__law_is_box K) [] E0 (tCons (tVar 3) tNil)) tNil)) (tC (.int 2))) tNil)))) (tRet (tC (.bl false))) tNext))
  (tSeq (tAsg (tLst (tCons (tVar 2) (tCons (tCall (sp__law_warped K) [] E0 (tCons (tVar 0) (tCons (tVar 2) tNil))) (tCons (tCall (sp__law_odd K) [] E0 (tCons (tVar 0) tNil)) tNil)))) (gName 5))
  (tRet (tOp rEq (tCB (rReprD K) (tCons (tLc (iList K (tVar 5)) (gName 3) tYes (tCall (sp_is_line K) [] E0 (tCons (tVar 3) tNil)) [3]) tNil)) (tCB (rReprD K) (tCons (tLc (iList K (tVar 5)) (gName 3) tYes (tCall (sp__law_is_line K) [] E0 (tCons (tVar 3) tNil)) [3]) tNil))))))))))
theorem pure__law_right (K : PySem.W.Frag) (vs : List V) (H : Hp) (Q : VK) (E : XK) (h : sp__law_right K vs H Q E) : t__law_right K { nx := fun _ H' => Q .non H', rt := Q } (L2.start N__law_right vs) H := body_W h (by decide) fun B w ds hp => by
  obtain ⟨_, e⟩ := hp
  subst e
  unfold t__law_right

  refine st_seq (st_asg (ev_callW rfl (ea_nil ⟨⟨trivial, rfl⟩, fun d ⟨dd, ss, ee, ts, ed, h1, h2, nf⟩ => ?_⟩)))
  subst ed
  refine st_seq (st_asg (ev_callW rfl (ea_cons (ev_var rfl (ea_nil ⟨⟨dd, ss, ee, ts, rfl, h1, h2, nf⟩, fun d ⟨d1, s1, e1, t1, ff, us, e, ed, hF, lf⟩ => ?_⟩)))))
  obtain ⟨rfl, rfl, rfl, rfl⟩ := ll_inj (PyData.tuple.inj (List.cons.inj e).1)
  subst ed
  have b1 := h1.1.lb
  have b2 := h2.1.lb
  have b3 := hF.lb
  refine st_seq (st_forL (ev_lst (ea_cons (ev_var rfl (ea_cons (ev_op (ev_var rfl (ev_int (rok_ixsT (d := lineD dd ss) rfl (ea_cons (ev_op (ev_var rfl (ev_int (rok_ixsT (d := lineD ee ts) rfl ?_))))))))))))))
  refine ea_cons (ev_callW rfl (ea_cons (ev_var rfl (ea_cons (ev_var rfl (ea_nil ⟨⟨dd, ss, ee, ts, ff, us, rfl, h1, h2, hF, lf, nf.1⟩, fun d ⟨gg, vs, ed, hG⟩ => ?_⟩))))))
  subst ed
  refine ea_cons (ev_callW rfl (ea_nil ⟨⟨trivial, rfl⟩, fun d ⟨ii, ws, ed, hI⟩ => ?_⟩))
  subst ed
  refine ea_nil ⟨by simp, _, rfl, fun i L2 Γ2 => ∃ s3 s4 : Sl, L2 = [] ∧ Γ2 = [.well w, .d (.tuple [lineD dd ss, lineD ee ts]), .d (lineD ff us), s3, s4, .un], ⟨_, _, rfl, rfl⟩, ?_, ?_⟩
  · rintro i d' L2 Γ2 g hi ⟨s3, s4, rfl, rfl⟩
    obtain ⟨gg2, vs2, rfl, hG2⟩ : ∃ gg vs, d' = lineD gg vs ∧ LB gg vs := by
      have hm := List.mem_of_getElem? hi
      simp only [List.mem_cons, List.not_mem_nil, or_false] at hm
      rcases hm with rfl | rfl | rfl | rfl | rfl
      · exact ⟨ff, us, rfl, b3⟩
      · exact ⟨dd, ss, rfl, b1⟩
      · exact ⟨ee, ts, rfl, b2⟩
      · exact ⟨gg, vs, rfl, hG.lb⟩
      · exact ⟨ii, ws, rfl, hI.ln.lb⟩
    refine st_seq (st_asg (ev_callP (ea_cons (ev_var rfl (ea_cons (ev_var rfl (ea_nil ⟨⟨dd, ss, ee, ts, gg2, vs2, rfl, b1, b2, nf, hG2⟩, fun d ⟨d1, s1, e1, t1, f1, u1, b, e, ed, eb⟩ => ?_⟩)))))))
    obtain ⟨rfl, rfl, rfl, rfl, rfl, rfl⟩ := bl_inj e
    subst ed
    have SB := sho_l2 (sho_bool b) (sho_bool b)
    refine st_if (et_test (ev_op (ev_cb (ea_cons (ev_lst (ea_cons (ev_callP (ea_cons (ev_var rfl (ea_cons (ev_var rfl (ea_nil ⟨⟨dd, ss, ee, ts, gg2, vs2, rfl, b1, b2, nf, hG2⟩, fun d ⟨d1, s1, e1, t1, f1, u1, c, e, ed, ec⟩ => ?_⟩))))))))))))
    obtain ⟨rfl, rfl, rfl, rfl, rfl, rfl⟩ := bl_inj e
    obtain rfl : b = c := bool_iff eb ec
    subst ed
    refine ea_cons (ev_callN (ea_cons (ev_var rfl (ea_cons (ev_var rfl (ea_nil ⟨⟨dd, ss, ee, ts, gg2, vs2, rfl, b1, b2, nf, hG2⟩, fun d ⟨d1, s1, e1, t1, f1, u1, c, e, ed, ec⟩ => ?_⟩))))))
    obtain ⟨rfl, rfl, rfl, rfl, rfl, rfl⟩ := bl_inj e
    obtain rfl : b = c := bool_iff eb ec
    subst ed
    exact ea_nil ⟨by simp, ea_nil (cok_show SB rfl (by decide) (by decide) (ev_cb (ea_cons (ev_lst (ea_cons (ev_var rfl (ea_cons (ev_var rfl (ea_nil ⟨by simp, ea_nil (cok_show SB rfl (by decide) (by decide) (rok_neS ⟨_, rfl, fun hb => (no_ne34 rfl hb).elim, fun _ => st_next ⟨_, _, rfl, rfl⟩⟩))⟩)))))))))⟩
  rintro L2 Γ2 ⟨s3, s4, rfl, rfl⟩
  have obx : OkC 9 4 (.tuple [lineD dd ss, lineD ee ts]) := okc_two (by decide) b1.okc b2.okc
  have o1 : Ok 4 (.tuple [lineD dd ss, lineD ee ts]) := obx.ok (by decide)
  have two : ∀ {x y : PyData}, OkC 9 3 x → OkC 9 3 y → (∃ n, n ≤ 40 ∧ Ok n (.tuple [x, y])) ∨ ∃ es, PyData.tuple [x, y] = .dict es := fun {x y} hx hy => .inl ⟨4, by decide, (okc_two (by decide) hx hy).ok (by decide)⟩
  refine st_seq (st_asg (ev_lst (ea_cons (ev_var rfl (ea_cons (ev_tup (ea_cons (ev_op (ev_var rfl (ev_int (rok_ixsT (d := lineD ee ts) rfl (ea_cons (ev_op (ev_var rfl (ev_int (rok_ixsT (d := lineD dd ss) rfl (ea_nil ⟨by simp, ?_⟩)))))))))))))))))
  refine ea_cons (ev_tup (ea_cons (ev_var rfl (ea_cons (ev_op (ev_var rfl (ev_int (rok_ixsT (d := lineD ee ts) rfl (ea_nil ⟨by simp, ?_⟩)))))))))
  refine ea_cons (ev_tup (ea_cons (ev_op (ev_var rfl (ev_int (rok_ixsT (d := lineD dd ss) rfl (ea_cons (ev_var rfl (ea_nil ⟨by simp, ?_⟩)))))))))
  refine ea_cons (ev_callW rfl (ea_cons (ev_var rfl (ea_nil ⟨⟨_, rfl, (obx.wide (by decide)).up (by decide)⟩, fun w1 hw1 => ?_⟩))))
  have hw1 : OkC 27 5 w1 := hw1 9 3 (by decide) (fun x hx => by rw [List.mem_singleton.mp hx]; exact obx)
  refine ea_cons (ev_callW rfl (ea_nil ⟨⟨trivial, rfl⟩, fun q1 hq1 => ?_⟩))
  refine ea_nil ⟨by simp, ?_⟩
  refine st_seq (st_forL (ev_op (ev_var rfl (ev_lst (ea_cons (ev_tup (ea_cons (ev_var rfl (ea_cons (ev_var rfl (ea_nil ⟨by simp, ?_⟩)))))))))))
  refine ea_cons (ev_tup (ea_cons (ev_var rfl (ea_cons (ev_callW rfl (ea_nil ⟨⟨trivial, rfl⟩, fun d ⟨ii, ws, ed, hI⟩ => ?_⟩))))))
  subst ed
  refine ea_nil ⟨by simp, ?_⟩
  refine ea_cons (ev_op (ev_var rfl (ev_int (rok_ixsT (d := lineD dd ss) rfl (ea_nil ⟨by simp, ro_catL (by simp) ?_⟩)))))
  refine ⟨_, rfl, fun i L2 Γ2 => ∃ s3 s4 s5 : Sl, L2 = [] ∧ Γ2 = [.well w, .d (.tuple [lineD dd ss, lineD ee ts]), .d (lineD ff us), s3, s4, s5], ⟨_, _, _, rfl, rfl⟩, ?_, ?_⟩
  · rintro i v L2 Γ2 g hi ⟨s3, s4, s5, rfl, rfl⟩
    have hv : (∃ n, n ≤ 40 ∧ Ok n v) ∨ ∃ es, v = .dict es := by
      have hm := List.mem_of_getElem? hi
      simp only [List.mem_append, List.mem_cons, List.not_mem_nil, or_false] at hm
      rcases hm with (rfl | rfl | rfl | rfl | rfl | rfl) | rfl | rfl | rfl
      · exact .inl ⟨4, by decide, o1⟩
      · exact two b2.okc b1.okc
      · exact two b3.okc b2.okc
      · exact two b1.okc b3.okc
      · exact .inl ⟨5, by decide, hw1.ok (by decide)⟩
      · exact hq1.elim (fun q => .inl ⟨6, by decide, q.ok (by decide)⟩) .inr
      · exact two b3.okc b3.okc
      · exact two b3.okc hI.ln.lb.okc
      · exact .inl ⟨3, by decide, b1.okc.ok (by decide)⟩
    have hv0 : (∃ n, Ok n v) ∨ ∃ es, v = .dict es := hv.elim (fun ⟨n, _, q⟩ => .inl ⟨n, q⟩) .inr
    refine st_if (et_test (ev_op (ev_cb (ea_cons (ev_lst (ea_cons (ev_callP (ea_cons (ev_var rfl (ea_nil ⟨⟨v, rfl, hv0⟩, fun d ⟨v', b, e, ed, eb⟩ => ?_⟩))))))))))
    cases e
    subst ed
    have SB := sho_l2 (sho_bool b) (sho_bool b)
    refine ea_cons (ev_callK0 (ea_cons (ev_var rfl (ea_nil ⟨⟨v, rfl, hv0⟩, fun d ⟨v', c, e, ed, ec⟩ => ?_⟩))))
    cases e
    obtain rfl : b = c := bool_iff eb ec
    subst ed
    refine ea_nil ⟨by simp, ea_nil (cok_show SB rfl (by decide) (by decide) (ev_cb (ea_cons (ev_op (ev_lst (ea_cons (ev_callP (ea_cons (ev_var rfl (ea_nil ⟨⟨v, rfl, hv⟩, fun d ⟨v', c, e, ed, ec⟩ => ?_⟩))))))))))⟩
    cases e
    obtain rfl : b = c := bool_iff eb ec
    subst ed
    exact ea_nil ⟨by simp, ev_int (ro_repL (by decide) (by decide) (by simp) (ea_nil (cok_show SB rfl (by decide) (by decide) (rok_neS ⟨_, rfl, fun hb => (no_ne34 rfl hb).elim, fun _ => st_next ⟨_, _, _, rfl, rfl⟩⟩))))⟩
  rintro L2 Γ2 ⟨s3, s4, s5, rfl, rfl⟩
  refine st_seq (st_asg (ev_lst (ea_cons (ev_var rfl (ea_cons (ev_callW rfl (ea_cons (ev_var rfl (ea_nil ⟨⟨_, rfl, (b3.okc.wide (by decide)).up (by decide)⟩, fun w2 hw2 => ?_⟩)))))))))
  have hw2 : OkC 27 4 w2 := hw2 9 2 (by decide) (fun x hx => by rw [List.mem_singleton.mp hx]; exact b3.okc)
  refine ea_cons (ev_callW rfl (ea_nil ⟨⟨trivial, rfl⟩, fun q2 hq2 => ?_⟩))
  refine ea_nil ⟨by simp, ?_⟩
  have S3 : Sho 1 ((1921 + 2) * 3 + 3) (.list (([lineD ff us, w2, q2] : List PyData).map fun v => PyData.bool (isLineD v))) := sho_l3 (sho_bool _) (sho_bool _) (sho_bool _)
  have hv : ∀ v ∈ [lineD ff us, w2, q2], (∃ n, n ≤ 40 ∧ Ok n v) ∨ ∃ es, v = .dict es := fun v hm => by
    simp only [List.mem_cons, List.not_mem_nil, or_false] at hm
    rcases hm with rfl | rfl | rfl
    · exact .inl ⟨3, by decide, b3.okc.ok (by decide)⟩
    · exact .inl ⟨4, by decide, hw2.ok (by decide)⟩
    · exact hq2.elim (fun q => .inl ⟨6, by decide, q.ok (by decide)⟩) .inr
  refine st_ret (ev_op (ev_cb (ea_cons (ev_new (en_lcL (wipe1 3) (ev_var rfl ⟨_, rfl, by simp, fun i acc => acc = (([lineD ff us, w2, q2] : List PyData).take i).map fun v => PyData.bool (isLineD v), ⟨rfl, fun i D d' acc hi hJ hin => ?_⟩, fun acc hJ => ?_⟩))))))
  · refine et_yes ⟨fun _ => ev_callP (ea_cons (ev_var rfl (ea_nil ⟨⟨d', rfl⟩, fun d ⟨v', e, ed⟩ => ?_⟩))), fun z => nomatch z⟩
    cases e
    subst ed
    subst hJ
    rw [List.take_add_one, hi, List.map_append]
    rfl
  have hJ : acc = ([lineD ff us, w2, q2] : List PyData).map fun v => PyData.bool (isLineD v) := hJ
  subst hJ
  refine ea_nil (cok_show S3 rfl (by decide) (by decide) (ev_cb (ea_cons (ev_new (en_lcL (wipe1 3) (ev_var rfl ⟨_, rfl, by simp, fun i acc => acc = (([lineD ff us, w2, q2] : List PyData).take i).map fun v => PyData.bool (isLineD v), ⟨rfl, fun i D d' acc hi hJ hin => ?_⟩, fun acc hJ => ?_⟩))))))
  · refine et_yes ⟨fun _ => ev_callP (ea_cons (ev_var rfl (ea_nil ⟨⟨d', rfl, hv d' (List.mem_of_getElem? hi)⟩, fun d ⟨v', e, ed⟩ => ?_⟩))), fun z => nomatch z⟩
    cases e
    subst ed
    subst hJ
    rw [List.take_add_one, hi, List.map_append]
    rfl
  have hJ : acc = ([lineD ff us, w2, q2] : List PyData).map fun v => PyData.bool (isLineD v) := hJ
  subst hJ
  exact ea_nil (cok_show S3 rfl (by decide) (by decide) (rok_eqS (congrArg PyData.bool (decide_eq_true rfl))))
theorem ok__law_right (T : Tx K mg) : FnG P w K mg base 12 T.a__law_right T.d__law_right p__law_right (sp__law_right K) := by
  refine Fun.okG T.F__law_right sc__law_right (fun vs H Q E h => len__law_right K vs H Q E h) (fun cdv A outer s H vs Q E gd hr h => ?_)
  have hu := hr.units
  exact ⟨t__law_right K, (pss_cons (ps_set (i := 1) sc__law_right.nd rfl (Or.inl rfl) (pe_call (ok__law_pair_box T) (hr.mono (by decide)) rfl T.g__law_pair_box T.F__law_pair_box.kp (b__law_pair_box T) .nil pass0 (pa_cons (pv 0) pa_nil)))
  (pss_cons (ps_set (i := 2) sc__law_right.nd rfl (Or.inl rfl) (pe_call (ok__law_within T) (hr.mono (by decide)) rfl T.g__law_within T.F__law_within.kp (b__law_within T) .nil pass0 (pa_cons (pv 0) (pa_cons (pv 1) pa_nil))))
  (pss_cons (ps_for PassesOwn.never rfl (pi_list (pe_lst (pa_cons (pv 2) (pa_cons (pe_ix ix_seq (pv 1) pe_int (fun _ _ => rfl)) (pa_cons (pe_ix ix_seq (pv 1) pe_int (fun _ _ => rfl)) (pa_cons (pe_call (ok__law_beyond T) (hr.mono (by decide)) rfl T.g__law_beyond T.F__law_beyond.kp (b__law_beyond T) .nil pass0 (pa_cons (pv 0) (pa_cons (pv 1) (pa_cons (pv 2) pa_nil)))) (pa_cons (pe_call (ok__law_line T) (hr.mono (by decide)) rfl T.g__law_line T.F__law_line.kp (b__law_line T) .nil pass0 (pa_cons (pv 0) pa_nil)) pa_nil))))))) (pg_name (i := 3) sc__law_right.nd rfl (Or.inl rfl)) (pss_cons (ps_set (i := 4) sc__law_right.nd rfl (Or.inl rfl) (pe_call (ok__law_is_within T) (hr.mono (by decide)) rfl T.g__law_is_within T.F__law_is_within.kp (b__law_is_within T) .nil pass0 (pa_cons (pv 1) (pa_cons (pv 3) pa_nil))))
  (pss_one (ps_if (pt_cmpR op_ne (pe_callB (call_reprD hu gd) (by rfl) T.n_repr (by decide +kernel) (pa_cons (pe_lst (pa_cons (pe_call (ok_is_in_box T) (hr.mono (by decide)) rfl T.g_is_in_box T.F_is_in_box.kp (b_is_in_box T) .nil pass0 (pa_cons (pv 1) (pa_cons (pv 3) pa_nil))) (pa_cons (pe_callN (ok_is_in_box T) (hr.mono (by decide)) rfl T.g_is_in_box T.F_is_in_box.kp (kb_is_in_box_0 T) pass0 (pk_cons (pv 3) (pk_cons (pv 1) pk_nil))) pa_nil))) pa_nil)) (pe_callB (call_reprD hu gd) (by rfl) T.n_repr (by decide +kernel) (pa_cons (pe_lst (pa_cons (pv 4) (pa_cons (pv 4) pa_nil))) pa_nil)) (nomark _)) (pss_one (ps_ret pe_bl)) pss_nil))))
  (pss_cons (ps_set (i := 5) sc__law_right.nd rfl (Or.inl rfl) (pe_lst (pa_cons (pv 1) (pa_cons (pe_tup (pa_cons (pe_ix ix_seq (pv 1) pe_int (fun _ _ => rfl)) (pa_cons (pe_ix ix_seq (pv 1) pe_int (fun _ _ => rfl)) pa_nil))) (pa_cons (pe_tup (pa_cons (pv 2) (pa_cons (pe_ix ix_seq (pv 1) pe_int (fun _ _ => rfl)) pa_nil))) (pa_cons (pe_tup (pa_cons (pe_ix ix_seq (pv 1) pe_int (fun _ _ => rfl)) (pa_cons (pv 2) pa_nil))) (pa_cons (pe_call (ok__law_warped T) (hr.mono (by decide)) rfl T.g__law_warped T.F__law_warped.kp (b__law_warped T) .nil pass0 (pa_cons (pv 0) (pa_cons (pv 1) pa_nil))) (pa_cons (pe_call (ok__law_odd T) (hr.mono (by decide)) rfl T.g__law_odd T.F__law_odd.kp (b__law_odd T) .nil pass0 (pa_cons (pv 0) pa_nil)) pa_nil))))))))
  (pss_cons (ps_for PassesOwn.never rfl (pi_list (pe_op op_addA (pv 5) (pe_lst (pa_cons (pe_tup (pa_cons (pv 2) (pa_cons (pv 2) pa_nil))) (pa_cons (pe_tup (pa_cons (pv 2) (pa_cons (pe_call (ok__law_line T) (hr.mono (by decide)) rfl T.g__law_line T.F__law_line.kp (b__law_line T) .nil pass0 (pa_cons (pv 0) pa_nil)) pa_nil))) (pa_cons (pe_ix ix_seq (pv 1) pe_int (fun _ _ => rfl)) pa_nil)))))) (pg_name (i := 3) sc__law_right.nd rfl (Or.inl rfl)) (pss_one (ps_if (pt_cmpR op_ne (pe_callB (call_reprD hu gd) (by rfl) T.n_repr (by decide +kernel) (pa_cons (pe_lst (pa_cons (pe_call (ok_is_box T) (hr.mono (by decide)) rfl T.g_is_box T.F_is_box.kp (b_is_box T) .nil pass0 (pa_cons (pv 3) pa_nil)) (pa_cons (pe_callK0 (ok_is_box T) (hr.mono (by decide)) rfl T.g_is_box T.F_is_box.kp (kb_is_box T) pass0 (pk_cons (pv 3) pk_nil)) pa_nil))) pa_nil)) (pe_callB (call_reprD hu gd) (by rfl) T.n_repr (by decide +kernel) (pa_cons (pe_op op_mulA (pe_lst (pa_cons (pe_call (ok__law_is_box T) (hr.mono (by decide)) rfl T.g__law_is_box T.F__law_is_box.kp (b__law_is_box T) .nil pass0 (pa_cons (pv 3) pa_nil)) pa_nil)) pe_int) pa_nil)) (nomark _)) (pss_one (ps_ret pe_bl)) pss_nil)))
  (pss_cons (ps_set (i := 5) sc__law_right.nd rfl (Or.inl rfl) (pe_lst (pa_cons (pv 2) (pa_cons (pe_call (ok__law_warped T) (hr.mono (by decide)) rfl T.g__law_warped T.F__law_warped.kp (b__law_warped T) .nil pass0 (pa_cons (pv 0) (pa_cons (pv 2) pa_nil))) (pa_cons (pe_call (ok__law_odd T) (hr.mono (by decide)) rfl T.g__law_odd T.F__law_odd.kp (b__law_odd T) .nil pass0 (pa_cons (pv 0) pa_nil)) pa_nil)))))
  (pss_one (ps_ret (pe_cmpR op_eq (pe_callB (call_reprD hu gd) (by rfl) T.n_repr (by decide +kernel) (pa_cons (pe_lc (own := [("_law_each", 3)]) (by rfl) sc__law_right.nd (pi_list (pv 5)) (blkOk_by (own := [("_law_each", 3)]) (N := N__law_right) (sc := defScope s__law_right) (by decide +kernel)) (fun _ _ _ _ _ => pg_name (i := 3) sc__law_right.nd rfl (Or.inl rfl)) (fun _ _ _ _ _ => pts_nil) (fun _ _ _ _ _ => (pe_call (ok_is_line T) (hr.mono (by decide)) rfl T.g_is_line T.F_is_line.kp (b_is_line T) .nil pass0 (pa_cons (pv 3) pa_nil)))) pa_nil)) (pe_callB (call_reprD hu gd) (by rfl) T.n_repr (by decide +kernel) (pa_cons (pe_lc (own := [("_law_each", 3)]) (by rfl) sc__law_right.nd (pi_list (pv 5)) (blkOk_by (own := [("_law_each", 3)]) (N := N__law_right) (sc := defScope s__law_right) (by decide +kernel)) (fun _ _ _ _ _ => pg_name (i := 3) sc__law_right.nd rfl (Or.inl rfl)) (fun _ _ _ _ _ => pts_nil) (fun _ _ _ _ _ => (pe_call (ok__law_is_line T) (hr.mono (by decide)) rfl T.g__law_is_line T.F__law_is_line.kp (b__law_is_line T) .nil pass0 (pa_cons (pv 3) pa_nil)))) pa_nil)) (nomark _)))))))))), pure__law_right K vs H Q E h⟩
/-! ### law -/
def sp_law (K : PySem.W.Frag) : Sp := fun vs H Q _ => ∃ (a : Addr) (ns : List Int), vs = [.ref a] ∧ SqL K H a (ns.map V.int) ∧ ns.length ≤ 63 ∧ ∀ H', Q (.bl true) H'
theorem len_law (K : PySem.W.Frag) (vs : List V) (H : Hp) (Q : VK) (E : XK) (h : sp_law K vs H Q E) : vs.length = p_law.length := by
  obtain ⟨a, ns, rfl, _⟩ := h
  rfl
def t_law (K : PySem.W.Frag) : TS :=
  (tRet (tCB (rAll K) (tCons (tLc (iList K (tCall (sp__law_laps K) [] E0 (tCons (tVar 0) (tCons (tC (.int 4)) tNil)))) (gName 1) tYes (tCall (sp__law_right K) [] E0 (tCons (tCall (sp__law_spool K) [] E0 (tCons (tVar 0) (tCons (tVar 1) tNil))) tNil)) [1]) tNil)))
theorem pure_law (K : PySem.W.Frag) (vs : List V) (H : Hp) (Q : VK) (E : XK) (h : sp_law K vs H Q E) : t_law K { nx := fun _ H' => Q .non H', rt := Q } (L2.start N_law vs) H := by
  obtain ⟨a, ns, rfl, hS, hlen, q⟩ := h
  unfold t_law
  refine ⟨_, rfl, ?_⟩
  unfold tNil
  have key : ∀ R : VK, (∀ p H' (k : Nat), Same H H' → H p = none → 1 ≤ k → k ≤ 100 → H' p = some (.lst (((List.range k).map fun i : Nat => (i : Int)).map V.int)) → R (.ref p) H') → sp__law_laps K [.ref a, .int 4] H R E0 := fun R hR => ⟨a, ns, 4, rfl, hS, hlen, by decide, by decide, hR⟩
  simp only [tCons, tC, List.append_nil]
  refine key _ fun p H1 k s1 hp k1 k2 e1 => ?_
  have hS1 := s1.seq hS
  refine ⟨p, rfl, ⟨_, .inl (.inl e1)⟩, fun D hD => lc_list (xs := ((List.range k).map fun i : Nat => (i : Int)).map V.int) (fun i H' => Same H1 H' ∧ H' D = some (.lst (List.replicate i (V.bl true))))
    ⟨same_upd hD, upd_same⟩ (fun i H' _ S => .inl (.inl (S.1 _ _ e1))) (fun i x H' hi S => ?_) (fun H' S => ?_)⟩
  · obtain ⟨s2, hDl⟩ := S
    have hx : ∃ j : Nat, x = V.int (j : Int) ∧ j < 100 := by
      rw [List.getElem?_map, List.getElem?_map] at hi
      cases e : (List.range k)[i]? with
      | none => rw [e] at hi; cases hi
      | some j =>
        rw [e] at hi
        have := List.mem_range.mp (List.mem_of_getElem? e)
        exact ⟨j, (Option.some.inj hi).symm, by omega⟩
    obtain ⟨j, rfl, hj⟩ := hx
    refine ⟨rfl, ?_⟩
    refine iteT (B := Same H1 H' ∧ H' D = some (.lst (List.replicate (i + 1) (V.bl true)))) ?_
    refine ⟨_, rfl, _, rfl, ?_⟩
    show sp__law_spool K [.ref a, .int (j : Int)] H' _ E0
    refine ⟨a, ns, j, rfl, s2.seq hS1, hlen, by omega, fun w H3 s3 hw hwell => ?_⟩
    show sp__law_right K [.ref w] H3 _ E0
    refine ⟨[w], w, [], [], rfl, List.mem_singleton.mpr rfl, hwell, fun m hm => ?_, .nil, ⟨trivial, rfl⟩, fun v d H4 hk _ dn hd => ?_⟩
    · rw [List.mem_singleton.mp hm]
      obtain ⟨n, b, c, e, _⟩ := hwell
      exact ⟨_, e⟩
    · rw [show d = .bool true from hd] at dn
      rw [dn_bool dn]
      have Dw : D ≠ w := fun z => by
        rw [z, hw] at hDl
        cases hDl
      refine ⟨_, hk D _ Dw (s3 _ _ hDl), ?_, fun b o e => ?_, ?_⟩
      · rw [List.length_replicate]
        have hi2 := (List.getElem?_eq_some_iff.mp hi).1
        rw [List.length_map, List.length_map, List.length_range] at hi2
        exact Nat.lt_of_lt_of_le (show i < 1000 by omega) (by decide)
      · have bD : b ≠ D := fun z => by
          rw [z, hD] at e
          cases e
        have bw : b ≠ w := fun z => by
          have := s2 _ _ e
          rw [z, hw] at this
          cases this
        rw [upd_ne bD]
        exact hk b o bw (s3 _ _ (s2 _ _ e))
      · rw [upd_same, List.replicate_succ']
  · refine ⟨D, List.replicate k true, rfl, .inl (.inl ?_), ?_⟩
    · rw [S.2, List.length_map, List.length_map, List.length_range, List.map_replicate]
    · rw [show (List.replicate k true).all id = true by simp]
      exact q H'
theorem ok_law (T : Tx K mg) : FnG P w K mg base 13 T.a_law T.d_law p_law (sp_law K) := by
  refine Fun.okG T.F_law sc_law (fun vs H Q E h => len_law K vs H Q E h) (fun cdv A outer s H vs Q E gd hr h => ?_)
  exact ⟨t_law K, (pss_one (ps_ret (pe_callB (cr_all rfl) (by rfl) T.n_all (by decide +kernel) (pa_cons (pe_lc (own := [("_law_lap", 1)]) (by rfl) sc_law.nd (pi_list (pe_call (ok__law_laps T) (hr.mono (by decide)) rfl T.g__law_laps T.F__law_laps.kp (b__law_laps T) .nil pass0 (pa_cons (pv 0) (pa_cons pe_int pa_nil)))) (blkOk_by (own := [("_law_lap", 1)]) (N := N_law) (sc := defScope s_law) (by decide +kernel)) (fun _ _ _ _ _ => pg_name (i := 1) sc_law.nd rfl (Or.inl rfl)) (fun _ _ _ _ _ => pts_nil) (fun _ _ _ _ _ => (pe_callG (ok__law_right T) (hr.mono (by decide)) gd rfl T.g__law_right T.F__law_right.kp (b__law_right T) (pa_cons (pe_call (ok__law_spool T) (hr.mono (by decide)) rfl T.g__law_spool T.F__law_spool.kp (b__law_spool T) .nil pass0 (pa_cons (pv 0) (pa_cons (pv 1) pa_nil))) pa_nil)))) pa_nil)))), pure_law K vs H Q E h⟩
end
theorem all_mk {l : PySem.W.OpenLaw} {w : World} {K : PySem.W.Frag} {h : Heap} {mg : Str → Option Value} {fa : Addr} (X : K.In h) (G : h.Ns mainGlobals mg) (hfa : mg "law" = some (.ref fa))
    {f_is_whole f_is_fraction f_sign_of f_compare_fractions f_is_fraction_from_nought f_is_row_of_fractions f_is_line f_check_line f_is_not_above f_is_not_faster f_is_box f_check_box f_is_in_box f__law_spool f__law_wind f__law_any f__law_measure f__law_frac f__law_sum f__law_gap f__law_prod f__law_side f__law_beside f__law_is_frac f__law_amount f__law_end f__law_line f__law_slots f__law_put f__law_held f__law_laps f__law_pair_box f__law_within f__law_is_within f__law_is_line f__law_is_box f__law_odd f__law_warped f__law_beyond f__law_right f_law  : Addr} {od_is_whole an_is_whole od_is_fraction an_is_fraction od_sign_of an_sign_of od_compare_fractions an_compare_fractions od_is_fraction_from_nought an_is_fraction_from_nought od_is_row_of_fractions an_is_row_of_fractions od_is_line an_is_line od_check_line an_check_line od_is_not_above an_is_not_above od_is_not_faster an_is_not_faster od_is_box an_is_box od_check_box an_check_box od_is_in_box an_is_in_box od__law_spool an__law_spool od__law_wind an__law_wind od__law_any an__law_any od__law_measure an__law_measure od__law_frac an__law_frac od__law_sum an__law_sum od__law_gap an__law_gap od__law_prod an__law_prod od__law_side an__law_side od__law_beside an__law_beside od__law_is_frac an__law_is_frac od__law_amount an__law_amount od__law_end an__law_end od__law_line an__law_line od__law_slots an__law_slots od__law_put an__law_put od__law_held an__law_held od__law_laps an__law_laps od__law_pair_box an__law_pair_box od__law_within an__law_within od__law_is_within an__law_is_within od__law_is_line an__law_is_line od__law_is_box an__law_is_box od__law_odd an__law_odd od__law_warped an__law_warped od__law_beyond an__law_beyond od__law_right an__law_right od_law an_law : Option Addr} {sl_is_whole sl_is_fraction sl_sign_of sl_compare_fractions sl_is_fraction_from_nought sl_is_row_of_fractions sl_is_line sl_check_line sl_is_not_above sl_is_not_faster sl_is_box sl_check_box sl_is_in_box sl__law_spool sl__law_wind sl__law_any sl__law_measure sl__law_frac sl__law_sum sl__law_gap sl__law_prod sl__law_side sl__law_beside sl__law_is_frac sl__law_amount sl__law_end sl__law_line sl__law_slots sl__law_put sl__law_held sl__law_laps sl__law_pair_box sl__law_within sl__law_is_within sl__law_is_line sl__law_is_box sl__law_odd sl__law_warped sl__law_beyond sl__law_right sl_law : Array (Option Value)} {oc_is_whole kV_is_whole dc_is_whole pm_is_whole cd_is_whole ct_is_whole oc_is_fraction kV_is_fraction dc_is_fraction pm_is_fraction cd_is_fraction ct_is_fraction oc_sign_of kV_sign_of dc_sign_of pm_sign_of cd_sign_of ct_sign_of oc_compare_fractions kV_compare_fractions dc_compare_fractions pm_compare_fractions cd_compare_fractions ct_compare_fractions oc_is_fraction_from_nought kV_is_fraction_from_nought dc_is_fraction_from_nought pm_is_fraction_from_nought cd_is_fraction_from_nought ct_is_fraction_from_nought oc_is_row_of_fractions kV_is_row_of_fractions dc_is_row_of_fractions pm_is_row_of_fractions cd_is_row_of_fractions ct_is_row_of_fractions oc_is_line kV_is_line dc_is_line pm_is_line cd_is_line ct_is_line oc_check_line kV_check_line dc_check_line pm_check_line cd_check_line ct_check_line oc_is_not_above kV_is_not_above dc_is_not_above pm_is_not_above cd_is_not_above ct_is_not_above oc_is_not_faster kV_is_not_faster dc_is_not_faster pm_is_not_faster cd_is_not_faster ct_is_not_faster oc_is_box kV_is_box dc_is_box pm_is_box cd_is_box ct_is_box oc_check_box kV_check_box dc_check_box pm_check_box cd_check_box ct_check_box oc_is_in_box kV_is_in_box dc_is_in_box pm_is_in_box cd_is_in_box ct_is_in_box oc__law_spool kV__law_spool dc__law_spool pm__law_spool cd__law_spool ct__law_spool oc__law_wind kV__law_wind dc__law_wind pm__law_wind cd__law_wind ct__law_wind oc__law_any kV__law_any dc__law_any pm__law_any cd__law_any ct__law_any oc__law_measure kV__law_measure dc__law_measure pm__law_measure cd__law_measure ct__law_measure oc__law_frac kV__law_frac dc__law_frac pm__law_frac cd__law_frac ct__law_frac oc__law_sum kV__law_sum dc__law_sum pm__law_sum cd__law_sum ct__law_sum oc__law_gap kV__law_gap dc__law_gap pm__law_gap cd__law_gap ct__law_gap oc__law_prod kV__law_prod dc__law_prod pm__law_prod cd__law_prod ct__law_prod oc__law_side kV__law_side dc__law_side pm__law_side cd__law_side ct__law_side oc__law_beside kV__law_beside dc__law_beside pm__law_beside cd__law_beside ct__law_beside oc__law_is_frac kV__law_is_frac dc__law_is_frac pm__law_is_frac cd__law_is_frac ct__law_is_frac oc__law_amount kV__law_amount dc__law_amount pm__law_amount cd__law_amount ct__law_amount oc__law_end kV__law_end dc__law_end pm__law_end cd__law_end ct__law_end oc__law_line kV__law_line dc__law_line pm__law_line cd__law_line ct__law_line oc__law_slots kV__law_slots dc__law_slots pm__law_slots cd__law_slots ct__law_slots oc__law_put kV__law_put dc__law_put pm__law_put cd__law_put ct__law_put oc__law_held kV__law_held dc__law_held pm__law_held cd__law_held ct__law_held oc__law_laps kV__law_laps dc__law_laps pm__law_laps cd__law_laps ct__law_laps oc__law_pair_box kV__law_pair_box dc__law_pair_box pm__law_pair_box cd__law_pair_box ct__law_pair_box oc__law_within kV__law_within dc__law_within pm__law_within cd__law_within ct__law_within oc__law_is_within kV__law_is_within dc__law_is_within pm__law_is_within cd__law_is_within ct__law_is_within oc__law_is_line kV__law_is_line dc__law_is_line pm__law_is_line cd__law_is_line ct__law_is_line oc__law_is_box kV__law_is_box dc__law_is_box pm__law_is_box cd__law_is_box ct__law_is_box oc__law_odd kV__law_odd dc__law_odd pm__law_odd cd__law_odd ct__law_odd oc__law_warped kV__law_warped dc__law_warped pm__law_warped cd__law_warped ct__law_warped oc__law_beyond kV__law_beyond dc__law_beyond pm__law_beyond cd__law_beyond ct__law_beyond oc__law_right kV__law_right dc__law_right pm__law_right cd__law_right ct__law_right oc_law kV_law dc_law pm_law cd_law ct_law : Value} {t_MOST_DISCS : Tok}
    (a_is_whole : PySem.W.nsIn K mainGlobals "is_whole" = some (some (.ref f_is_whole)))
    (l_is_whole : K.lookup f_is_whole = some ⟨oc_is_whole, od_is_whole, .func (PySem.W.fnOf "is_whole" "is_whole" (defArgs s_is_whole) (defBody s_is_whole) (defScope s_is_whole) .none kV_is_whole dc_is_whole pm_is_whole an_is_whole cd_is_whole ct_is_whole), sl_is_whole⟩)
    (c_is_whole : PySem.W.codeIn K cd_is_whole "is_whole" = true)
    (k_is_whole : PySem.W.keepIn K (.ref f_is_whole) = true)
    (a_is_fraction : PySem.W.nsIn K mainGlobals "is_fraction" = some (some (.ref f_is_fraction)))
    (l_is_fraction : K.lookup f_is_fraction = some ⟨oc_is_fraction, od_is_fraction, .func (PySem.W.fnOf "is_fraction" "is_fraction" (defArgs s_is_fraction) (defBody s_is_fraction) (defScope s_is_fraction) .none kV_is_fraction dc_is_fraction pm_is_fraction an_is_fraction cd_is_fraction ct_is_fraction), sl_is_fraction⟩)
    (c_is_fraction : PySem.W.codeIn K cd_is_fraction "is_fraction" = true)
    (k_is_fraction : PySem.W.keepIn K (.ref f_is_fraction) = true)
    (a_sign_of : PySem.W.nsIn K mainGlobals "sign_of" = some (some (.ref f_sign_of)))
    (l_sign_of : K.lookup f_sign_of = some ⟨oc_sign_of, od_sign_of, .func (PySem.W.fnOf "sign_of" "sign_of" (defArgs s_sign_of) (defBody s_sign_of) (defScope s_sign_of) .none kV_sign_of dc_sign_of pm_sign_of an_sign_of cd_sign_of ct_sign_of), sl_sign_of⟩)
    (c_sign_of : PySem.W.codeIn K cd_sign_of "sign_of" = true)
    (k_sign_of : PySem.W.keepIn K (.ref f_sign_of) = true)
    (a_compare_fractions : PySem.W.nsIn K mainGlobals "compare_fractions" = some (some (.ref f_compare_fractions)))
    (l_compare_fractions : K.lookup f_compare_fractions = some ⟨oc_compare_fractions, od_compare_fractions, .func (PySem.W.fnOf "compare_fractions" "compare_fractions" (defArgs s_compare_fractions) (defBody s_compare_fractions) (defScope s_compare_fractions) .none kV_compare_fractions dc_compare_fractions pm_compare_fractions an_compare_fractions cd_compare_fractions ct_compare_fractions), sl_compare_fractions⟩)
    (c_compare_fractions : PySem.W.codeIn K cd_compare_fractions "compare_fractions" = true)
    (k_compare_fractions : PySem.W.keepIn K (.ref f_compare_fractions) = true)
    (a_is_fraction_from_nought : PySem.W.nsIn K mainGlobals "is_fraction_from_nought" = some (some (.ref f_is_fraction_from_nought)))
    (l_is_fraction_from_nought : K.lookup f_is_fraction_from_nought = some ⟨oc_is_fraction_from_nought, od_is_fraction_from_nought, .func (PySem.W.fnOf "is_fraction_from_nought" "is_fraction_from_nought" (defArgs s_is_fraction_from_nought) (defBody s_is_fraction_from_nought) (defScope s_is_fraction_from_nought) .none kV_is_fraction_from_nought dc_is_fraction_from_nought pm_is_fraction_from_nought an_is_fraction_from_nought cd_is_fraction_from_nought ct_is_fraction_from_nought), sl_is_fraction_from_nought⟩)
    (c_is_fraction_from_nought : PySem.W.codeIn K cd_is_fraction_from_nought "is_fraction_from_nought" = true)
    (k_is_fraction_from_nought : PySem.W.keepIn K (.ref f_is_fraction_from_nought) = true)
    (a_is_row_of_fractions : PySem.W.nsIn K mainGlobals "is_row_of_fractions" = some (some (.ref f_is_row_of_fractions)))
    (l_is_row_of_fractions : K.lookup f_is_row_of_fractions = some ⟨oc_is_row_of_fractions, od_is_row_of_fractions, .func (PySem.W.fnOf "is_row_of_fractions" "is_row_of_fractions" (defArgs s_is_row_of_fractions) (defBody s_is_row_of_fractions) (defScope s_is_row_of_fractions) .none kV_is_row_of_fractions dc_is_row_of_fractions pm_is_row_of_fractions an_is_row_of_fractions cd_is_row_of_fractions ct_is_row_of_fractions), sl_is_row_of_fractions⟩)
    (c_is_row_of_fractions : PySem.W.codeIn K cd_is_row_of_fractions "is_row_of_fractions" = true)
    (k_is_row_of_fractions : PySem.W.keepIn K (.ref f_is_row_of_fractions) = true)
    (a_is_line : PySem.W.nsIn K mainGlobals "is_line" = some (some (.ref f_is_line)))
    (l_is_line : K.lookup f_is_line = some ⟨oc_is_line, od_is_line, .func (PySem.W.fnOf "is_line" "is_line" (defArgs s_is_line) (defBody s_is_line) (defScope s_is_line) .none kV_is_line dc_is_line pm_is_line an_is_line cd_is_line ct_is_line), sl_is_line⟩)
    (c_is_line : PySem.W.codeIn K cd_is_line "is_line" = true)
    (k_is_line : PySem.W.keepIn K (.ref f_is_line) = true)
    (a_check_line : PySem.W.nsIn K mainGlobals "check_line" = some (some (.ref f_check_line)))
    (l_check_line : K.lookup f_check_line = some ⟨oc_check_line, od_check_line, .func (PySem.W.fnOf "check_line" "check_line" (defArgs s_check_line) (defBody s_check_line) (defScope s_check_line) .none kV_check_line dc_check_line pm_check_line an_check_line cd_check_line ct_check_line), sl_check_line⟩)
    (c_check_line : PySem.W.codeIn K cd_check_line "check_line" = true)
    (k_check_line : PySem.W.keepIn K (.ref f_check_line) = true)
    (a_is_not_above : PySem.W.nsIn K mainGlobals "is_not_above" = some (some (.ref f_is_not_above)))
    (l_is_not_above : K.lookup f_is_not_above = some ⟨oc_is_not_above, od_is_not_above, .func (PySem.W.fnOf "is_not_above" "is_not_above" (defArgs s_is_not_above) (defBody s_is_not_above) (defScope s_is_not_above) .none kV_is_not_above dc_is_not_above pm_is_not_above an_is_not_above cd_is_not_above ct_is_not_above), sl_is_not_above⟩)
    (c_is_not_above : PySem.W.codeIn K cd_is_not_above "is_not_above" = true)
    (k_is_not_above : PySem.W.keepIn K (.ref f_is_not_above) = true)
    (a_is_not_faster : PySem.W.nsIn K mainGlobals "is_not_faster" = some (some (.ref f_is_not_faster)))
    (l_is_not_faster : K.lookup f_is_not_faster = some ⟨oc_is_not_faster, od_is_not_faster, .func (PySem.W.fnOf "is_not_faster" "is_not_faster" (defArgs s_is_not_faster) (defBody s_is_not_faster) (defScope s_is_not_faster) .none kV_is_not_faster dc_is_not_faster pm_is_not_faster an_is_not_faster cd_is_not_faster ct_is_not_faster), sl_is_not_faster⟩)
    (c_is_not_faster : PySem.W.codeIn K cd_is_not_faster "is_not_faster" = true)
    (k_is_not_faster : PySem.W.keepIn K (.ref f_is_not_faster) = true)
    (a_is_box : PySem.W.nsIn K mainGlobals "is_box" = some (some (.ref f_is_box)))
    (l_is_box : K.lookup f_is_box = some ⟨oc_is_box, od_is_box, .func (PySem.W.fnOf "is_box" "is_box" (defArgs s_is_box) (defBody s_is_box) (defScope s_is_box) .none kV_is_box dc_is_box pm_is_box an_is_box cd_is_box ct_is_box), sl_is_box⟩)
    (c_is_box : PySem.W.codeIn K cd_is_box "is_box" = true)
    (k_is_box : PySem.W.keepIn K (.ref f_is_box) = true)
    (a_check_box : PySem.W.nsIn K mainGlobals "check_box" = some (some (.ref f_check_box)))
    (l_check_box : K.lookup f_check_box = some ⟨oc_check_box, od_check_box, .func (PySem.W.fnOf "check_box" "check_box" (defArgs s_check_box) (defBody s_check_box) (defScope s_check_box) .none kV_check_box dc_check_box pm_check_box an_check_box cd_check_box ct_check_box), sl_check_box⟩)
    (c_check_box : PySem.W.codeIn K cd_check_box "check_box" = true)
    (k_check_box : PySem.W.keepIn K (.ref f_check_box) = true)
    (a_is_in_box : PySem.W.nsIn K mainGlobals "is_in_box" = some (some (.ref f_is_in_box)))
    (l_is_in_box : K.lookup f_is_in_box = some ⟨oc_is_in_box, od_is_in_box, .func (PySem.W.fnOf "is_in_box" "is_in_box" (defArgs s_is_in_box) (defBody s_is_in_box) (defScope s_is_in_box) .none kV_is_in_box dc_is_in_box pm_is_in_box an_is_in_box cd_is_in_box ct_is_in_box), sl_is_in_box⟩)
    (c_is_in_box : PySem.W.codeIn K cd_is_in_box "is_in_box" = true)
    (k_is_in_box : PySem.W.keepIn K (.ref f_is_in_box) = true)
    (a__law_spool : PySem.W.nsIn K mainGlobals "_law_spool" = some (some (.ref f__law_spool)))
    (l__law_spool : K.lookup f__law_spool = some ⟨oc__law_spool, od__law_spool, .func (PySem.W.fnOf "_law_spool" "_law_spool" (defArgs s__law_spool) (defBody s__law_spool) (defScope s__law_spool) .none kV__law_spool dc__law_spool pm__law_spool an__law_spool cd__law_spool ct__law_spool), sl__law_spool⟩)
    (c__law_spool : PySem.W.codeIn K cd__law_spool "_law_spool" = true)
    (k__law_spool : PySem.W.keepIn K (.ref f__law_spool) = true)
    (a__law_wind : PySem.W.nsIn K mainGlobals "_law_wind" = some (some (.ref f__law_wind)))
    (l__law_wind : K.lookup f__law_wind = some ⟨oc__law_wind, od__law_wind, .func (PySem.W.fnOf "_law_wind" "_law_wind" (defArgs s__law_wind) (defBody s__law_wind) (defScope s__law_wind) .none kV__law_wind dc__law_wind pm__law_wind an__law_wind cd__law_wind ct__law_wind), sl__law_wind⟩)
    (c__law_wind : PySem.W.codeIn K cd__law_wind "_law_wind" = true)
    (k__law_wind : PySem.W.keepIn K (.ref f__law_wind) = true)
    (a__law_any : PySem.W.nsIn K mainGlobals "_law_any" = some (some (.ref f__law_any)))
    (l__law_any : K.lookup f__law_any = some ⟨oc__law_any, od__law_any, .func (PySem.W.fnOf "_law_any" "_law_any" (defArgs s__law_any) (defBody s__law_any) (defScope s__law_any) .none kV__law_any dc__law_any pm__law_any an__law_any cd__law_any ct__law_any), sl__law_any⟩)
    (c__law_any : PySem.W.codeIn K cd__law_any "_law_any" = true)
    (k__law_any : PySem.W.keepIn K (.ref f__law_any) = true)
    (a__law_measure : PySem.W.nsIn K mainGlobals "_law_measure" = some (some (.ref f__law_measure)))
    (l__law_measure : K.lookup f__law_measure = some ⟨oc__law_measure, od__law_measure, .func (PySem.W.fnOf "_law_measure" "_law_measure" (defArgs s__law_measure) (defBody s__law_measure) (defScope s__law_measure) .none kV__law_measure dc__law_measure pm__law_measure an__law_measure cd__law_measure ct__law_measure), sl__law_measure⟩)
    (c__law_measure : PySem.W.codeIn K cd__law_measure "_law_measure" = true)
    (k__law_measure : PySem.W.keepIn K (.ref f__law_measure) = true)
    (a__law_frac : PySem.W.nsIn K mainGlobals "_law_frac" = some (some (.ref f__law_frac)))
    (l__law_frac : K.lookup f__law_frac = some ⟨oc__law_frac, od__law_frac, .func (PySem.W.fnOf "_law_frac" "_law_frac" (defArgs s__law_frac) (defBody s__law_frac) (defScope s__law_frac) .none kV__law_frac dc__law_frac pm__law_frac an__law_frac cd__law_frac ct__law_frac), sl__law_frac⟩)
    (c__law_frac : PySem.W.codeIn K cd__law_frac "_law_frac" = true)
    (k__law_frac : PySem.W.keepIn K (.ref f__law_frac) = true)
    (a__law_sum : PySem.W.nsIn K mainGlobals "_law_sum" = some (some (.ref f__law_sum)))
    (l__law_sum : K.lookup f__law_sum = some ⟨oc__law_sum, od__law_sum, .func (PySem.W.fnOf "_law_sum" "_law_sum" (defArgs s__law_sum) (defBody s__law_sum) (defScope s__law_sum) .none kV__law_sum dc__law_sum pm__law_sum an__law_sum cd__law_sum ct__law_sum), sl__law_sum⟩)
    (c__law_sum : PySem.W.codeIn K cd__law_sum "_law_sum" = true)
    (k__law_sum : PySem.W.keepIn K (.ref f__law_sum) = true)
    (a__law_gap : PySem.W.nsIn K mainGlobals "_law_gap" = some (some (.ref f__law_gap)))
    (l__law_gap : K.lookup f__law_gap = some ⟨oc__law_gap, od__law_gap, .func (PySem.W.fnOf "_law_gap" "_law_gap" (defArgs s__law_gap) (defBody s__law_gap) (defScope s__law_gap) .none kV__law_gap dc__law_gap pm__law_gap an__law_gap cd__law_gap ct__law_gap), sl__law_gap⟩)
    (c__law_gap : PySem.W.codeIn K cd__law_gap "_law_gap" = true)
    (k__law_gap : PySem.W.keepIn K (.ref f__law_gap) = true)
    (a__law_prod : PySem.W.nsIn K mainGlobals "_law_prod" = some (some (.ref f__law_prod)))
    (l__law_prod : K.lookup f__law_prod = some ⟨oc__law_prod, od__law_prod, .func (PySem.W.fnOf "_law_prod" "_law_prod" (defArgs s__law_prod) (defBody s__law_prod) (defScope s__law_prod) .none kV__law_prod dc__law_prod pm__law_prod an__law_prod cd__law_prod ct__law_prod), sl__law_prod⟩)
    (c__law_prod : PySem.W.codeIn K cd__law_prod "_law_prod" = true)
    (k__law_prod : PySem.W.keepIn K (.ref f__law_prod) = true)
    (a__law_side : PySem.W.nsIn K mainGlobals "_law_side" = some (some (.ref f__law_side)))
    (l__law_side : K.lookup f__law_side = some ⟨oc__law_side, od__law_side, .func (PySem.W.fnOf "_law_side" "_law_side" (defArgs s__law_side) (defBody s__law_side) (defScope s__law_side) .none kV__law_side dc__law_side pm__law_side an__law_side cd__law_side ct__law_side), sl__law_side⟩)
    (c__law_side : PySem.W.codeIn K cd__law_side "_law_side" = true)
    (k__law_side : PySem.W.keepIn K (.ref f__law_side) = true)
    (a__law_beside : PySem.W.nsIn K mainGlobals "_law_beside" = some (some (.ref f__law_beside)))
    (l__law_beside : K.lookup f__law_beside = some ⟨oc__law_beside, od__law_beside, .func (PySem.W.fnOf "_law_beside" "_law_beside" (defArgs s__law_beside) (defBody s__law_beside) (defScope s__law_beside) .none kV__law_beside dc__law_beside pm__law_beside an__law_beside cd__law_beside ct__law_beside), sl__law_beside⟩)
    (c__law_beside : PySem.W.codeIn K cd__law_beside "_law_beside" = true)
    (k__law_beside : PySem.W.keepIn K (.ref f__law_beside) = true)
    (a__law_is_frac : PySem.W.nsIn K mainGlobals "_law_is_frac" = some (some (.ref f__law_is_frac)))
    (l__law_is_frac : K.lookup f__law_is_frac = some ⟨oc__law_is_frac, od__law_is_frac, .func (PySem.W.fnOf "_law_is_frac" "_law_is_frac" (defArgs s__law_is_frac) (defBody s__law_is_frac) (defScope s__law_is_frac) .none kV__law_is_frac dc__law_is_frac pm__law_is_frac an__law_is_frac cd__law_is_frac ct__law_is_frac), sl__law_is_frac⟩)
    (c__law_is_frac : PySem.W.codeIn K cd__law_is_frac "_law_is_frac" = true)
    (k__law_is_frac : PySem.W.keepIn K (.ref f__law_is_frac) = true)
    (a__law_amount : PySem.W.nsIn K mainGlobals "_law_amount" = some (some (.ref f__law_amount)))
    (l__law_amount : K.lookup f__law_amount = some ⟨oc__law_amount, od__law_amount, .func (PySem.W.fnOf "_law_amount" "_law_amount" (defArgs s__law_amount) (defBody s__law_amount) (defScope s__law_amount) .none kV__law_amount dc__law_amount pm__law_amount an__law_amount cd__law_amount ct__law_amount), sl__law_amount⟩)
    (c__law_amount : PySem.W.codeIn K cd__law_amount "_law_amount" = true)
    (k__law_amount : PySem.W.keepIn K (.ref f__law_amount) = true)
    (a__law_end : PySem.W.nsIn K mainGlobals "_law_end" = some (some (.ref f__law_end)))
    (l__law_end : K.lookup f__law_end = some ⟨oc__law_end, od__law_end, .func (PySem.W.fnOf "_law_end" "_law_end" (defArgs s__law_end) (defBody s__law_end) (defScope s__law_end) .none kV__law_end dc__law_end pm__law_end an__law_end cd__law_end ct__law_end), sl__law_end⟩)
    (c__law_end : PySem.W.codeIn K cd__law_end "_law_end" = true)
    (k__law_end : PySem.W.keepIn K (.ref f__law_end) = true)
    (a__law_line : PySem.W.nsIn K mainGlobals "_law_line" = some (some (.ref f__law_line)))
    (l__law_line : K.lookup f__law_line = some ⟨oc__law_line, od__law_line, .func (PySem.W.fnOf "_law_line" "_law_line" (defArgs s__law_line) (defBody s__law_line) (defScope s__law_line) .none kV__law_line dc__law_line pm__law_line an__law_line cd__law_line ct__law_line), sl__law_line⟩)
    (c__law_line : PySem.W.codeIn K cd__law_line "_law_line" = true)
    (k__law_line : PySem.W.keepIn K (.ref f__law_line) = true)
    (a__law_slots : PySem.W.nsIn K mainGlobals "_law_slots" = some (some (.ref f__law_slots)))
    (l__law_slots : K.lookup f__law_slots = some ⟨oc__law_slots, od__law_slots, .func (PySem.W.fnOf "_law_slots" "_law_slots" (defArgs s__law_slots) (defBody s__law_slots) (defScope s__law_slots) .none kV__law_slots dc__law_slots pm__law_slots an__law_slots cd__law_slots ct__law_slots), sl__law_slots⟩)
    (c__law_slots : PySem.W.codeIn K cd__law_slots "_law_slots" = true)
    (k__law_slots : PySem.W.keepIn K (.ref f__law_slots) = true)
    (a__law_put : PySem.W.nsIn K mainGlobals "_law_put" = some (some (.ref f__law_put)))
    (l__law_put : K.lookup f__law_put = some ⟨oc__law_put, od__law_put, .func (PySem.W.fnOf "_law_put" "_law_put" (defArgs s__law_put) (defBody s__law_put) (defScope s__law_put) .none kV__law_put dc__law_put pm__law_put an__law_put cd__law_put ct__law_put), sl__law_put⟩)
    (c__law_put : PySem.W.codeIn K cd__law_put "_law_put" = true)
    (k__law_put : PySem.W.keepIn K (.ref f__law_put) = true)
    (a__law_held : PySem.W.nsIn K mainGlobals "_law_held" = some (some (.ref f__law_held)))
    (l__law_held : K.lookup f__law_held = some ⟨oc__law_held, od__law_held, .func (PySem.W.fnOf "_law_held" "_law_held" (defArgs s__law_held) (defBody s__law_held) (defScope s__law_held) .none kV__law_held dc__law_held pm__law_held an__law_held cd__law_held ct__law_held), sl__law_held⟩)
    (c__law_held : PySem.W.codeIn K cd__law_held "_law_held" = true)
    (k__law_held : PySem.W.keepIn K (.ref f__law_held) = true)
    (a__law_laps : PySem.W.nsIn K mainGlobals "_law_laps" = some (some (.ref f__law_laps)))
    (l__law_laps : K.lookup f__law_laps = some ⟨oc__law_laps, od__law_laps, .func (PySem.W.fnOf "_law_laps" "_law_laps" (defArgs s__law_laps) (defBody s__law_laps) (defScope s__law_laps) .none kV__law_laps dc__law_laps pm__law_laps an__law_laps cd__law_laps ct__law_laps), sl__law_laps⟩)
    (c__law_laps : PySem.W.codeIn K cd__law_laps "_law_laps" = true)
    (k__law_laps : PySem.W.keepIn K (.ref f__law_laps) = true)
    (a__law_pair_box : PySem.W.nsIn K mainGlobals "_law_pair_box" = some (some (.ref f__law_pair_box)))
    (l__law_pair_box : K.lookup f__law_pair_box = some ⟨oc__law_pair_box, od__law_pair_box, .func (PySem.W.fnOf "_law_pair_box" "_law_pair_box" (defArgs s__law_pair_box) (defBody s__law_pair_box) (defScope s__law_pair_box) .none kV__law_pair_box dc__law_pair_box pm__law_pair_box an__law_pair_box cd__law_pair_box ct__law_pair_box), sl__law_pair_box⟩)
    (c__law_pair_box : PySem.W.codeIn K cd__law_pair_box "_law_pair_box" = true)
    (k__law_pair_box : PySem.W.keepIn K (.ref f__law_pair_box) = true)
    (a__law_within : PySem.W.nsIn K mainGlobals "_law_within" = some (some (.ref f__law_within)))
    (l__law_within : K.lookup f__law_within = some ⟨oc__law_within, od__law_within, .func (PySem.W.fnOf "_law_within" "_law_within" (defArgs s__law_within) (defBody s__law_within) (defScope s__law_within) .none kV__law_within dc__law_within pm__law_within an__law_within cd__law_within ct__law_within), sl__law_within⟩)
    (c__law_within : PySem.W.codeIn K cd__law_within "_law_within" = true)
    (k__law_within : PySem.W.keepIn K (.ref f__law_within) = true)
    (a__law_is_within : PySem.W.nsIn K mainGlobals "_law_is_within" = some (some (.ref f__law_is_within)))
    (l__law_is_within : K.lookup f__law_is_within = some ⟨oc__law_is_within, od__law_is_within, .func (PySem.W.fnOf "_law_is_within" "_law_is_within" (defArgs s__law_is_within) (defBody s__law_is_within) (defScope s__law_is_within) .none kV__law_is_within dc__law_is_within pm__law_is_within an__law_is_within cd__law_is_within ct__law_is_within), sl__law_is_within⟩)
    (c__law_is_within : PySem.W.codeIn K cd__law_is_within "_law_is_within" = true)
    (k__law_is_within : PySem.W.keepIn K (.ref f__law_is_within) = true)
    (a__law_is_line : PySem.W.nsIn K mainGlobals "_law_is_line" = some (some (.ref f__law_is_line)))
    (l__law_is_line : K.lookup f__law_is_line = some ⟨oc__law_is_line, od__law_is_line, .func (PySem.W.fnOf "_law_is_line" "_law_is_line" (defArgs s__law_is_line) (defBody s__law_is_line) (defScope s__law_is_line) .none kV__law_is_line dc__law_is_line pm__law_is_line an__law_is_line cd__law_is_line ct__law_is_line), sl__law_is_line⟩)
    (c__law_is_line : PySem.W.codeIn K cd__law_is_line "_law_is_line" = true)
    (k__law_is_line : PySem.W.keepIn K (.ref f__law_is_line) = true)
    (a__law_is_box : PySem.W.nsIn K mainGlobals "_law_is_box" = some (some (.ref f__law_is_box)))
    (l__law_is_box : K.lookup f__law_is_box = some ⟨oc__law_is_box, od__law_is_box, .func (PySem.W.fnOf "_law_is_box" "_law_is_box" (defArgs s__law_is_box) (defBody s__law_is_box) (defScope s__law_is_box) .none kV__law_is_box dc__law_is_box pm__law_is_box an__law_is_box cd__law_is_box ct__law_is_box), sl__law_is_box⟩)
    (c__law_is_box : PySem.W.codeIn K cd__law_is_box "_law_is_box" = true)
    (k__law_is_box : PySem.W.keepIn K (.ref f__law_is_box) = true)
    (a__law_odd : PySem.W.nsIn K mainGlobals "_law_odd" = some (some (.ref f__law_odd)))
    (l__law_odd : K.lookup f__law_odd = some ⟨oc__law_odd, od__law_odd, .func (PySem.W.fnOf "_law_odd" "_law_odd" (defArgs s__law_odd) (defBody s__law_odd) (defScope s__law_odd) .none kV__law_odd dc__law_odd pm__law_odd an__law_odd cd__law_odd ct__law_odd), sl__law_odd⟩)
    (c__law_odd : PySem.W.codeIn K cd__law_odd "_law_odd" = true)
    (k__law_odd : PySem.W.keepIn K (.ref f__law_odd) = true)
    (a__law_warped : PySem.W.nsIn K mainGlobals "_law_warped" = some (some (.ref f__law_warped)))
    (l__law_warped : K.lookup f__law_warped = some ⟨oc__law_warped, od__law_warped, .func (PySem.W.fnOf "_law_warped" "_law_warped" (defArgs s__law_warped) (defBody s__law_warped) (defScope s__law_warped) .none kV__law_warped dc__law_warped pm__law_warped an__law_warped cd__law_warped ct__law_warped), sl__law_warped⟩)
    (c__law_warped : PySem.W.codeIn K cd__law_warped "_law_warped" = true)
    (k__law_warped : PySem.W.keepIn K (.ref f__law_warped) = true)
    (a__law_beyond : PySem.W.nsIn K mainGlobals "_law_beyond" = some (some (.ref f__law_beyond)))
    (l__law_beyond : K.lookup f__law_beyond = some ⟨oc__law_beyond, od__law_beyond, .func (PySem.W.fnOf "_law_beyond" "_law_beyond" (defArgs s__law_beyond) (defBody s__law_beyond) (defScope s__law_beyond) .none kV__law_beyond dc__law_beyond pm__law_beyond an__law_beyond cd__law_beyond ct__law_beyond), sl__law_beyond⟩)
    (c__law_beyond : PySem.W.codeIn K cd__law_beyond "_law_beyond" = true)
    (k__law_beyond : PySem.W.keepIn K (.ref f__law_beyond) = true)
    (a__law_right : PySem.W.nsIn K mainGlobals "_law_right" = some (some (.ref f__law_right)))
    (l__law_right : K.lookup f__law_right = some ⟨oc__law_right, od__law_right, .func (PySem.W.fnOf "_law_right" "_law_right" (defArgs s__law_right) (defBody s__law_right) (defScope s__law_right) .none kV__law_right dc__law_right pm__law_right an__law_right cd__law_right ct__law_right), sl__law_right⟩)
    (c__law_right : PySem.W.codeIn K cd__law_right "_law_right" = true)
    (k__law_right : PySem.W.keepIn K (.ref f__law_right) = true)
    (a_law : PySem.W.nsIn K mainGlobals "law" = some (some (.ref f_law)))
    (l_law : K.lookup f_law = some ⟨oc_law, od_law, .func (PySem.W.fnOf "law" "law" (defArgs s_law) (defBody s_law) (defScope s_law) .none kV_law dc_law pm_law an_law cd_law ct_law), sl_law⟩)
    (c_law : PySem.W.codeIn K cd_law "law" = true)
    (k_law : PySem.W.keepIn K (.ref f_law) = true)
    (q_MOST_DISCS : PySem.W.nsIn K mainGlobals "MOST_DISCS" = some (some (.int 8 t_MOST_DISCS)))
    (q_abs : PySem.W.nsIn K mainGlobals "abs" = some none)
    (q_all : PySem.W.nsIn K mainGlobals "all" = some none)
    (q_bool : PySem.W.nsIn K mainGlobals "bool" = some none)
    (q_divmod : PySem.W.nsIn K mainGlobals "divmod" = some none)
    (q_gcd : PySem.W.nsIn K mainGlobals "gcd" = some (some (.builtin "math.gcd")))
    (q_int : PySem.W.nsIn K mainGlobals "int" = some none)
    (q_isinstance : PySem.W.nsIn K mainGlobals "isinstance" = some none)
    (q_len : PySem.W.nsIn K mainGlobals "len" = some none)
    (q_list : PySem.W.nsIn K mainGlobals "list" = some none)
    (q_max : PySem.W.nsIn K mainGlobals "max" = some none)
    (q_min : PySem.W.nsIn K mainGlobals "min" = some none)
    (q_range : PySem.W.nsIn K mainGlobals "range" = some none)
    (q_repr : PySem.W.nsIn K mainGlobals "repr" = some none)
    (q_tuple : PySem.W.nsIn K mainGlobals "tuple" = some none)
    (q_zip : PySem.W.nsIn K mainGlobals "zip" = some none) :
    ∃ fd : FuncData, (∀ (s : Shared) (v : Value), BindsTo s fd ⟨[v], []⟩ [("_law_script", v)]) ∧ ∀ base : Heap, K.In base → base.Ns mainGlobals mg → FnG l.prog w K mg base 13 fa fd ["_law_script"] (sp_law K) := by
  have e := hfa.symm.trans (PySem.W.mg_of X G a_law)
  cases e
  have T : { T : Tx K mg // T.a_law = fa ∧ T.d_law = PySem.W.fnOf "law" "law" (defArgs s_law) (defBody s_law) (defScope s_law) .none kV_law dc_law pm_law an_law cd_law ct_law } := ⟨{ a_is_whole := f_is_whole, d_is_whole := _, F_is_whole := fun_mk l_is_whole c_is_whole k_is_whole, g_is_whole := PySem.W.mg_of X G a_is_whole, a_is_fraction := f_is_fraction, d_is_fraction := _, F_is_fraction := fun_mk l_is_fraction c_is_fraction k_is_fraction, g_is_fraction := PySem.W.mg_of X G a_is_fraction, a_sign_of := f_sign_of, d_sign_of := _, F_sign_of := fun_mk l_sign_of c_sign_of k_sign_of, g_sign_of := PySem.W.mg_of X G a_sign_of, a_compare_fractions := f_compare_fractions, d_compare_fractions := _, F_compare_fractions := fun_mk l_compare_fractions c_compare_fractions k_compare_fractions, g_compare_fractions := PySem.W.mg_of X G a_compare_fractions, a_is_fraction_from_nought := f_is_fraction_from_nought, d_is_fraction_from_nought := _, F_is_fraction_from_nought := fun_mk l_is_fraction_from_nought c_is_fraction_from_nought k_is_fraction_from_nought, g_is_fraction_from_nought := PySem.W.mg_of X G a_is_fraction_from_nought, a_is_row_of_fractions := f_is_row_of_fractions, d_is_row_of_fractions := _, F_is_row_of_fractions := fun_mk l_is_row_of_fractions c_is_row_of_fractions k_is_row_of_fractions, g_is_row_of_fractions := PySem.W.mg_of X G a_is_row_of_fractions, a_is_line := f_is_line, d_is_line := _, F_is_line := fun_mk l_is_line c_is_line k_is_line, g_is_line := PySem.W.mg_of X G a_is_line, a_check_line := f_check_line, d_check_line := _, F_check_line := fun_mk l_check_line c_check_line k_check_line, g_check_line := PySem.W.mg_of X G a_check_line, a_is_not_above := f_is_not_above, d_is_not_above := _, F_is_not_above := fun_mk l_is_not_above c_is_not_above k_is_not_above, g_is_not_above := PySem.W.mg_of X G a_is_not_above, a_is_not_faster := f_is_not_faster, d_is_not_faster := _, F_is_not_faster := fun_mk l_is_not_faster c_is_not_faster k_is_not_faster, g_is_not_faster := PySem.W.mg_of X G a_is_not_faster, a_is_box := f_is_box, d_is_box := _, F_is_box := fun_mk l_is_box c_is_box k_is_box, g_is_box := PySem.W.mg_of X G a_is_box, a_check_box := f_check_box, d_check_box := _, F_check_box := fun_mk l_check_box c_check_box k_check_box, g_check_box := PySem.W.mg_of X G a_check_box, a_is_in_box := f_is_in_box, d_is_in_box := _, F_is_in_box := fun_mk l_is_in_box c_is_in_box k_is_in_box, g_is_in_box := PySem.W.mg_of X G a_is_in_box, a__law_spool := f__law_spool, d__law_spool := _, F__law_spool := fun_mk l__law_spool c__law_spool k__law_spool, g__law_spool := PySem.W.mg_of X G a__law_spool, a__law_wind := f__law_wind, d__law_wind := _, F__law_wind := fun_mk l__law_wind c__law_wind k__law_wind, g__law_wind := PySem.W.mg_of X G a__law_wind, a__law_any := f__law_any, d__law_any := _, F__law_any := fun_mk l__law_any c__law_any k__law_any, g__law_any := PySem.W.mg_of X G a__law_any, a__law_measure := f__law_measure, d__law_measure := _, F__law_measure := fun_mk l__law_measure c__law_measure k__law_measure, g__law_measure := PySem.W.mg_of X G a__law_measure, a__law_frac := f__law_frac, d__law_frac := _, F__law_frac := fun_mk l__law_frac c__law_frac k__law_frac, g__law_frac := PySem.W.mg_of X G a__law_frac, a__law_sum := f__law_sum, d__law_sum := _, F__law_sum := fun_mk l__law_sum c__law_sum k__law_sum, g__law_sum := PySem.W.mg_of X G a__law_sum, a__law_gap := f__law_gap, d__law_gap := _, F__law_gap := fun_mk l__law_gap c__law_gap k__law_gap, g__law_gap := PySem.W.mg_of X G a__law_gap, a__law_prod := f__law_prod, d__law_prod := _, F__law_prod := fun_mk l__law_prod c__law_prod k__law_prod, g__law_prod := PySem.W.mg_of X G a__law_prod, a__law_side := f__law_side, d__law_side := _, F__law_side := fun_mk l__law_side c__law_side k__law_side, g__law_side := PySem.W.mg_of X G a__law_side, a__law_beside := f__law_beside, d__law_beside := _, F__law_beside := fun_mk l__law_beside c__law_beside k__law_beside, g__law_beside := PySem.W.mg_of X G a__law_beside, a__law_is_frac := f__law_is_frac, d__law_is_frac := _, F__law_is_frac := fun_mk l__law_is_frac c__law_is_frac k__law_is_frac, g__law_is_frac := PySem.W.mg_of X G a__law_is_frac, a__law_amount := f__law_amount, d__law_amount := _, F__law_amount := fun_mk l__law_amount c__law_amount k__law_amount, g__law_amount := PySem.W.mg_of X G a__law_amount, a__law_end := f__law_end, d__law_end := _, F__law_end := fun_mk l__law_end c__law_end k__law_end, g__law_end := PySem.W.mg_of X G a__law_end, a__law_line := f__law_line, d__law_line := _, F__law_line := fun_mk l__law_line c__law_line k__law_line, g__law_line := PySem.W.mg_of X G a__law_line, a__law_slots := f__law_slots, d__law_slots := _, F__law_slots := fun_mk l__law_slots c__law_slots k__law_slots, g__law_slots := PySem.W.mg_of X G a__law_slots, a__law_put := f__law_put, d__law_put := _, F__law_put := fun_mk l__law_put c__law_put k__law_put, g__law_put := PySem.W.mg_of X G a__law_put, a__law_held := f__law_held, d__law_held := _, F__law_held := fun_mk l__law_held c__law_held k__law_held, g__law_held := PySem.W.mg_of X G a__law_held, a__law_laps := f__law_laps, d__law_laps := _, F__law_laps := fun_mk l__law_laps c__law_laps k__law_laps, g__law_laps := PySem.W.mg_of X G a__law_laps, a__law_pair_box := f__law_pair_box, d__law_pair_box := _, F__law_pair_box := fun_mk l__law_pair_box c__law_pair_box k__law_pair_box, g__law_pair_box := PySem.W.mg_of X G a__law_pair_box, a__law_within := f__law_within, d__law_within := _, F__law_within := fun_mk l__law_within c__law_within k__law_within, g__law_within := PySem.W.mg_of X G a__law_within, a__law_is_within := f__law_is_within, d__law_is_within := _, F__law_is_within := fun_mk l__law_is_within c__law_is_within k__law_is_within, g__law_is_within := PySem.W.mg_of X G a__law_is_within, a__law_is_line := f__law_is_line, d__law_is_line := _, F__law_is_line := fun_mk l__law_is_line c__law_is_line k__law_is_line, g__law_is_line := PySem.W.mg_of X G a__law_is_line, a__law_is_box := f__law_is_box, d__law_is_box := _, F__law_is_box := fun_mk l__law_is_box c__law_is_box k__law_is_box, g__law_is_box := PySem.W.mg_of X G a__law_is_box, a__law_odd := f__law_odd, d__law_odd := _, F__law_odd := fun_mk l__law_odd c__law_odd k__law_odd, g__law_odd := PySem.W.mg_of X G a__law_odd, a__law_warped := f__law_warped, d__law_warped := _, F__law_warped := fun_mk l__law_warped c__law_warped k__law_warped, g__law_warped := PySem.W.mg_of X G a__law_warped, a__law_beyond := f__law_beyond, d__law_beyond := _, F__law_beyond := fun_mk l__law_beyond c__law_beyond k__law_beyond, g__law_beyond := PySem.W.mg_of X G a__law_beyond, a__law_right := f__law_right, d__law_right := _, F__law_right := fun_mk l__law_right c__law_right k__law_right, g__law_right := PySem.W.mg_of X G a__law_right, a_law := fa, d_law := _, F_law := fun_mk l_law c_law k_law, g_law := PySem.W.mg_of X G a_law, t_MOST_DISCS := t_MOST_DISCS, c_MOST_DISCS := PySem.W.mg_of X G q_MOST_DISCS, n_abs := PySem.W.mg_none_of X G q_abs, n_all := PySem.W.mg_none_of X G q_all, n_bool := PySem.W.mg_none_of X G q_bool, n_divmod := PySem.W.mg_none_of X G q_divmod, l_gcd := PySem.W.mg_of X G q_gcd, n_int := PySem.W.mg_none_of X G q_int, n_isinstance := PySem.W.mg_none_of X G q_isinstance, n_len := PySem.W.mg_none_of X G q_len, n_list := PySem.W.mg_none_of X G q_list, n_max := PySem.W.mg_none_of X G q_max, n_min := PySem.W.mg_none_of X G q_min, n_range := PySem.W.mg_none_of X G q_range, n_repr := PySem.W.mg_none_of X G q_repr, n_tuple := PySem.W.mg_none_of X G q_tuple, n_zip := PySem.W.mg_none_of X G q_zip }, rfl, rfl⟩
  obtain ⟨T, e1, e2⟩ := T
  refine ⟨T.d_law, fun s v => by rw [e2]; exact .of_eq rfl, fun base _ _ => ?_⟩
  have := ok_law (P := l.prog) (w := w) (base := base) T
  rw [e1] at this
  exact this
theorem walk {l : PySem.W.OpenLaw} {q : Program} {loose : List Str} {XP : (Str → Option Value) → Heap → Prop} {YP : World → Heap → Prop} {d : DefRec} {K : Params → PySem.W.Frag} (hn : l.most = some 63) (hdf : d.params.defaults = [])
    (hY : ∀ (w : World) (h : Heap), YP w h → (K w.params).In h)
    (F : ∀ (w : World) (mg : Str → Option Value) (fa : Addr) (h : Heap), (K w.params).In h → h.Ns mainGlobals mg → mg d.name = some (.ref fa) →
      ∃ fd : FuncData, (∀ (s : Shared) (u : Value), BindsTo s fd ⟨[u], []⟩ [("_law_script", u)]) ∧ ∀ base : Heap, (K w.params).In base → base.Ns mainGlobals mg → FnG l.prog w (K w.params) mg base 13 fa fd ["_law_script"] (sp_law (K w.params))) :
    PySem.W.WalkO q loose XP YP l.row.toRowW d [] (fun f vs => PySem.call f vs) :=
  DL.walk_ofG (n := 63) (k := 13) (x := "_law_script") (sp := sp_law) hn (by decide) hdf ⟨rfl, by decide, by decide⟩ hY F (fun _ _ a ns hl hS => ⟨a, ns, rfl, hS, hl, fun _ => rfl⟩)
end Law
open PySem PySem.W PyProof.Rows
set_option maxRecDepth 100000 in
set_option maxHeartbeats 0 in
theorem PySem.Challenge.cw_shaftshakes_k34_whole_boxes_and_their_li_holds : PySem.Challenge.rw_shaftshakes_k34_whole_boxes_and_their_li.Holds := by
  w_on; o_law; k_head; (case hw => w_witness2)
  k_fill
  refine Law.walk (l := PySem.Challenge.rw_shaftshakes_k34_whole_boxes_and_their_li) rfl rfl (fun w h Y => PySem.W.kIn_of Y) ?F
  case F =>
    intro w mg fa h KX G hmg
    refine' Law.all_mk KX G hmg ?a_is_whole ?l_is_whole ?c_is_whole ?k_is_whole ?a_is_fraction ?l_is_fraction ?c_is_fraction ?k_is_fraction ?a_sign_of ?l_sign_of ?c_sign_of ?k_sign_of ?a_compare_fractions ?l_compare_fractions ?c_compare_fractions ?k_compare_fractions ?a_is_fraction_from_nought ?l_is_fraction_from_nought ?c_is_fraction_from_nought ?k_is_fraction_from_nought ?a_is_row_of_fractions ?l_is_row_of_fractions ?c_is_row_of_fractions ?k_is_row_of_fractions ?a_is_line ?l_is_line ?c_is_line ?k_is_line ?a_check_line ?l_check_line ?c_check_line ?k_check_line ?a_is_not_above ?l_is_not_above ?c_is_not_above ?k_is_not_above ?a_is_not_faster ?l_is_not_faster ?c_is_not_faster ?k_is_not_faster ?a_is_box ?l_is_box ?c_is_box ?k_is_box ?a_check_box ?l_check_box ?c_check_box ?k_check_box ?a_is_in_box ?l_is_in_box ?c_is_in_box ?k_is_in_box ?a__law_spool ?l__law_spool ?c__law_spool ?k__law_spool ?a__law_wind ?l__law_wind ?c__law_wind ?k__law_wind ?a__law_any ?l__law_any ?c__law_any ?k__law_any ?a__law_measure ?l__law_measure ?c__law_measure ?k__law_measure ?a__law_frac ?l__law_frac ?c__law_frac ?k__law_frac ?a__law_sum ?l__law_sum ?c__law_sum ?k__law_sum ?a__law_gap ?l__law_gap ?c__law_gap ?k__law_gap ?a__law_prod ?l__law_prod ?c__law_prod ?k__law_prod ?a__law_side ?l__law_side ?c__law_side ?k__law_side ?a__law_beside ?l__law_beside ?c__law_beside ?k__law_beside ?a__law_is_frac ?l__law_is_frac ?c__law_is_frac ?k__law_is_frac ?a__law_amount ?l__law_amount ?c__law_amount ?k__law_amount ?a__law_end ?l__law_end ?c__law_end ?k__law_end ?a__law_line ?l__law_line ?c__law_line ?k__law_line ?a__law_slots ?l__law_slots ?c__law_slots ?k__law_slots ?a__law_put ?l__law_put ?c__law_put ?k__law_put ?a__law_held ?l__law_held ?c__law_held ?k__law_held ?a__law_laps ?l__law_laps ?c__law_laps ?k__law_laps ?a__law_pair_box ?l__law_pair_box ?c__law_pair_box ?k__law_pair_box ?a__law_within ?l__law_within ?c__law_within ?k__law_within ?a__law_is_within ?l__law_is_within ?c__law_is_within ?k__law_is_within ?a__law_is_line ?l__law_is_line ?c__law_is_line ?k__law_is_line ?a__law_is_box ?l__law_is_box ?c__law_is_box ?k__law_is_box ?a__law_odd ?l__law_odd ?c__law_odd ?k__law_odd ?a__law_warped ?l__law_warped ?c__law_warped ?k__law_warped ?a__law_beyond ?l__law_beyond ?c__law_beyond ?k__law_beyond ?a__law_right ?l__law_right ?c__law_right ?k__law_right ?a_law ?l_law ?c_law ?k_law ?q_MOST_DISCS ?q_abs ?q_all ?q_bool ?q_divmod ?q_gcd ?q_int ?q_isinstance ?q_len ?q_list ?q_max ?q_min ?q_range ?q_repr ?q_tuple ?q_zip
    (case a_is_whole => k_is)
    (case l_is_whole => k_is)
    (case c_is_whole => k_is)
    (case k_is_whole => k_is)
    (case a_is_fraction => k_is)
    (case l_is_fraction => k_is)
    (case c_is_fraction => k_is)
    (case k_is_fraction => k_is)
    (case a_sign_of => k_is)
    (case l_sign_of => k_is)
    (case c_sign_of => k_is)
    (case k_sign_of => k_is)
    (case a_compare_fractions => k_is)
    (case l_compare_fractions => k_is)
    (case c_compare_fractions => k_is)
    (case k_compare_fractions => k_is)
    (case a_is_fraction_from_nought => k_is)
    (case l_is_fraction_from_nought => k_is)
    (case c_is_fraction_from_nought => k_is)
    (case k_is_fraction_from_nought => k_is)
    (case a_is_row_of_fractions => k_is)
    (case l_is_row_of_fractions => k_is)
    (case c_is_row_of_fractions => k_is)
    (case k_is_row_of_fractions => k_is)
    (case a_is_line => k_is)
    (case l_is_line => k_is)
    (case c_is_line => k_is)
    (case k_is_line => k_is)
    (case a_check_line => k_is)
    (case l_check_line => k_is)
    (case c_check_line => k_is)
    (case k_check_line => k_is)
    (case a_is_not_above => k_is)
    (case l_is_not_above => k_is)
    (case c_is_not_above => k_is)
    (case k_is_not_above => k_is)
    (case a_is_not_faster => k_is)
    (case l_is_not_faster => k_is)
    (case c_is_not_faster => k_is)
    (case k_is_not_faster => k_is)
    (case a_is_box => k_is)
    (case l_is_box => k_is)
    (case c_is_box => k_is)
    (case k_is_box => k_is)
    (case a_check_box => k_is)
    (case l_check_box => k_is)
    (case c_check_box => k_is)
    (case k_check_box => k_is)
    (case a_is_in_box => k_is)
    (case l_is_in_box => k_is)
    (case c_is_in_box => k_is)
    (case k_is_in_box => k_is)
    (case a__law_spool => k_is)
    (case l__law_spool => k_is)
    (case c__law_spool => k_is)
    (case k__law_spool => k_is)
    (case a__law_wind => k_is)
    (case l__law_wind => k_is)
    (case c__law_wind => k_is)
    (case k__law_wind => k_is)
    (case a__law_any => k_is)
    (case l__law_any => k_is)
    (case c__law_any => k_is)
    (case k__law_any => k_is)
    (case a__law_measure => k_is)
    (case l__law_measure => k_is)
    (case c__law_measure => k_is)
    (case k__law_measure => k_is)
    (case a__law_frac => k_is)
    (case l__law_frac => k_is)
    (case c__law_frac => k_is)
    (case k__law_frac => k_is)
    (case a__law_sum => k_is)
    (case l__law_sum => k_is)
    (case c__law_sum => k_is)
    (case k__law_sum => k_is)
    (case a__law_gap => k_is)
    (case l__law_gap => k_is)
    (case c__law_gap => k_is)
    (case k__law_gap => k_is)
    (case a__law_prod => k_is)
    (case l__law_prod => k_is)
    (case c__law_prod => k_is)
    (case k__law_prod => k_is)
    (case a__law_side => k_is)
    (case l__law_side => k_is)
    (case c__law_side => k_is)
    (case k__law_side => k_is)
    (case a__law_beside => k_is)
    (case l__law_beside => k_is)
    (case c__law_beside => k_is)
    (case k__law_beside => k_is)
    (case a__law_is_frac => k_is)
    (case l__law_is_frac => k_is)
    (case c__law_is_frac => k_is)
    (case k__law_is_frac => k_is)
    (case a__law_amount => k_is)
    (case l__law_amount => k_is)
    (case c__law_amount => k_is)
    (case k__law_amount => k_is)
    (case a__law_end => k_is)
    (case l__law_end => k_is)
    (case c__law_end => k_is)
    (case k__law_end => k_is)
    (case a__law_line => k_is)
    (case l__law_line => k_is)
    (case c__law_line => k_is)
    (case k__law_line => k_is)
    (case a__law_slots => k_is)
    (case l__law_slots => k_is)
    (case c__law_slots => k_is)
    (case k__law_slots => k_is)
    (case a__law_put => k_is)
    (case l__law_put => k_is)
    (case c__law_put => k_is)
    (case k__law_put => k_is)
    (case a__law_held => k_is)
    (case l__law_held => k_is)
    (case c__law_held => k_is)
    (case k__law_held => k_is)
    (case a__law_laps => k_is)
    (case l__law_laps => k_is)
    (case c__law_laps => k_is)
    (case k__law_laps => k_is)
    (case a__law_pair_box => k_is)
    (case l__law_pair_box => k_is)
    (case c__law_pair_box => k_is)
    (case k__law_pair_box => k_is)
    (case a__law_within => k_is)
    (case l__law_within => k_is)
    (case c__law_within => k_is)
    (case k__law_within => k_is)
    (case a__law_is_within => k_is)
    (case l__law_is_within => k_is)
    (case c__law_is_within => k_is)
    (case k__law_is_within => k_is)
    (case a__law_is_line => k_is)
    (case l__law_is_line => k_is)
    (case c__law_is_line => k_is)
    (case k__law_is_line => k_is)
    (case a__law_is_box => k_is)
    (case l__law_is_box => k_is)
    (case c__law_is_box => k_is)
    (case k__law_is_box => k_is)
    (case a__law_odd => k_is)
    (case l__law_odd => k_is)
    (case c__law_odd => k_is)
    (case k__law_odd => k_is)
    (case a__law_warped => k_is)
    (case l__law_warped => k_is)
    (case c__law_warped => k_is)
    (case k__law_warped => k_is)
    (case a__law_beyond => k_is)
    (case l__law_beyond => k_is)
    (case c__law_beyond => k_is)
    (case k__law_beyond => k_is)
    (case a__law_right => k_is)
    (case l__law_right => k_is)
    (case c__law_right => k_is)
    (case k__law_right => k_is)
    (case a_law => k_is)
    (case l_law => k_is)
    (case c_law => k_is)
    (case k_law => k_is)
    (case q_MOST_DISCS => k_is)
    (case q_abs => k_is)
    (case q_all => k_is)
    (case q_bool => k_is)
    (case q_divmod => k_is)
    (case q_gcd => k_is)
    (case q_int => k_is)
    (case q_isinstance => k_is)
    (case q_len => k_is)
    (case q_list => k_is)
    (case q_max => k_is)
    (case q_min => k_is)
    (case q_range => k_is)
    (case q_repr => k_is)
    (case q_tuple => k_is)
    (case q_zip => k_is)
