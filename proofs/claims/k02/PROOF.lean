import PyProof.Rows.All
import Wide.All
import OpenK.AllK
import Wide.FinOn
import HandS.ForMost
import HandS.IsInst
import HandS.Style
import HandS.TupAny
import HandS.TupMul
import HandS.Gcd
import HandS.Wide
import HandS.WideBits
import HandS.Conv
import HandS.Exc
import HandS.Zip0
import KE.GoesMore
import PyProof.Draws
import PyProof.EnumMake
import PyProof.ReprRoads
import PyProof.ReprLen
import PyProof.Rows.RegStrFacts
import HandS.ForDict
import HandS.Rev
import HandS.SetFor
import HandS.RaiseMore
import HandS.TryOnly
import KE.KMathGC
import HandS.Deep
import HandS.Zip
import KE.DataAny
import HandS.Flow
import HandS.Comp
import PySem.Challenge.RW_shaftshakes_k02_whole_values_and_common
set_option Elab.async false
set_option linter.all false
set_option maxRecDepth 100000
set_option maxHeartbeats 4000000
/-! A layer over HandS: values are told as data, one mutable list (the well) and local lists apart. -/
namespace DL
open PySem PySem.Spec PyProof.Rows L2

/-! ### data -/
mutual
inductive Dn (K : PySem.W.Frag) (H : Hp) : V → PyData → Prop
  | non : Dn K H .non .none
  | bl (b : Bool) : Dn K H (.bl b) (.bool b)
  | int (i : Int) : Dn K H (.int i) (.int i)
  | str (x : Str) : Dn K H (.str x) (.str x)
  | lst {a : Addr} {xs : List V} {ds : List PyData} : H a = some (.lst xs) → DnA K H xs ds → Dn K H (.ref a) (.list ds)
  | tup {a : Addr} {xs : List V} {ds : List PyData} : SqT K H a xs → DnA K H xs ds → Dn K H (.ref a) (.tuple ds)
  | emp {a : Addr} : H a = some (.dK []) → Dn K H (.ref a) (.dict [])
inductive DnA (K : PySem.W.Frag) (H : Hp) : List V → List PyData → Prop
  | nil : DnA K H [] []
  | cons {v : V} {vs : List V} {d : PyData} {ds : List PyData} : Dn K H v d → DnA K H vs ds → DnA K H (v :: vs) (d :: ds)
end

theorem Same.sqt {K : PySem.W.Frag} {H H' : Hp} {a : Addr} {xs : List V} (e : Same H H') (h : SqT K H a xs) : SqT K H' a xs := by
  rcases h with (h | ⟨o, h⟩) | h
  · exact .inl (.inl (e _ _ h))
  · exact .inl (.inr ⟨o, e _ _ h⟩)
  · exact .inr h

section
variable {K : PySem.W.Frag} {H H' : Hp}
mutual
theorem Dn.mono (e : Same H H') : ∀ {v : V} {d : PyData}, Dn K H v d → Dn K H' v d
  | _, _, .non => .non
  | _, _, .bl b => .bl b
  | _, _, .int i => .int i
  | _, _, .str x => .str x
  | _, _, .lst h1 h2 => .lst (e _ _ h1) (DnA.mono e h2)
  | _, _, .tup h1 h2 => .tup (Same.sqt e h1) (DnA.mono e h2)
  | _, _, .emp h => .emp (e _ _ h)
theorem DnA.mono (e : Same H H') : ∀ {vs : List V} {ds : List PyData}, DnA K H vs ds → DnA K H' vs ds
  | _, _, .nil => .nil
  | _, _, .cons h1 h2 => .cons (Dn.mono e h1) (DnA.mono e h2)
end
theorem DnA.length : ∀ {vs : List V} {ds : List PyData}, DnA K H vs ds → vs.length = ds.length
  | _, _, .nil => rfl
  | _, _, .cons _ h => by
    show _ + 1 = _ + 1
    rw [DnA.length h]
theorem DnA.get : ∀ {vs : List V} {ds : List PyData} {i : Nat} {d : PyData}, DnA K H vs ds → ds[i]? = some d → ∃ v, vs[i]? = some v ∧ Dn K H v d
  | _, _, i, _, .nil, e => by simp at e
  | _, _, 0, _, .cons h _, e => by
    simp at e
    subst e
    exact ⟨_, rfl, h⟩
  | _, _, i + 1, _, .cons _ h, e => by
    obtain ⟨v, q, r⟩ := DnA.get (i := i) h (by simpa using e)
    exact ⟨v, by simpa using q, r⟩
theorem DnA.getV : ∀ {vs : List V} {ds : List PyData} {i : Nat} {v : V}, DnA K H vs ds → vs[i]? = some v → ∃ d, ds[i]? = some d ∧ Dn K H v d
  | _, _, i, _, .nil, e => by simp at e
  | _, _, 0, _, .cons h _, e => by
    simp at e
    subst e
    exact ⟨_, rfl, h⟩
  | _, _, i + 1, _, .cons _ h, e => by
    obtain ⟨v, q, r⟩ := DnA.getV (i := i) h (by simpa using e)
    exact ⟨v, by simpa using q, r⟩
theorem DnA.append : ∀ {vs ws : List V} {ds es : List PyData}, DnA K H vs ds → DnA K H ws es → DnA K H (vs ++ ws) (ds ++ es)
  | _, _, _, _, .nil, h => h
  | _, _, _, _, .cons h1 h2, h => .cons h1 (DnA.append h2 h)
theorem DnA.take : ∀ {vs : List V} {ds : List PyData} (n : Nat), DnA K H vs ds → DnA K H (vs.take n) (ds.take n)
  | _, _, 0, _ => .nil
  | _, _, _ + 1, .nil => .nil
  | _, _, n + 1, .cons h1 h2 => .cons h1 (DnA.take n h2)
theorem DnA.drop : ∀ {vs : List V} {ds : List PyData} (n : Nat), DnA K H vs ds → DnA K H (vs.drop n) (ds.drop n)
  | _, _, 0, h => h
  | _, _, _ + 1, .nil => .nil
  | _, _, n + 1, .cons h1 h2 => DnA.drop n h2
theorem DnA.set : ∀ {vs : List V} {ds : List PyData} (i : Nat) {v : V} {d : PyData}, DnA K H vs ds → Dn K H v d → DnA K H (vs.set i v) (ds.set i d)
  | _, _, _, _, _, .nil, _ => .nil
  | _, _, 0, _, _, .cons _ h2, h => .cons h h2
  | _, _, i + 1, _, _, .cons h1 h2, h => .cons h1 (DnA.set i h2 h)
theorem DnA.rev : ∀ {vs : List V} {ds : List PyData}, DnA K H vs ds → DnA K H vs.reverse ds.reverse
  | _, _, .nil => .nil
  | _, _, .cons h1 h2 => by
    rw [List.reverse_cons, List.reverse_cons]
    exact DnA.append (DnA.rev h2) (.cons h1 .nil)
theorem DnA.bools : ∀ {vs : List V} {ns : List Bool}, DnA K H vs (ns.map PyData.bool) → vs = ns.map V.bl
  | _, [], .nil => rfl
  | _, n :: ns, .cons h1 h2 => by
    cases h1
    rw [DnA.bools h2]
    rfl
end

/-! ### what is hidden -/
def hid (M : List Addr) (H : Hp) : Hp := fun a => if a ∈ M then none else H a
theorem hid_out {M : List Addr} {H : Hp} {a : Addr} (h : a ∉ M) : hid M H a = H a := by unfold hid; rw [if_neg h]
theorem hid_some {M : List Addr} {H : Hp} {a : Addr} {o : HO} (h : hid M H a = some o) : a ∉ M ∧ H a = some o := by
  unfold hid at h
  by_cases q : a ∈ M
  · rw [if_pos q] at h; cases h
  · rw [if_neg q] at h; exact ⟨q, h⟩
theorem hid_sub (M : List Addr) (H : Hp) : Same (hid M H) H := fun a o h => (hid_some h).2
theorem hid_less {M N : List Addr} (H : Hp) (h : ∀ a ∈ N, a ∈ M) : Same (hid M H) (hid N H) := fun a o e => by
  obtain ⟨q, e⟩ := hid_some e
  rw [hid_out (fun z => q (h a z))]
  exact e
theorem hid_same {M : List Addr} {H H' : Hp} (h : ∀ a o, a ∉ M → H a = some o → H' a = some o) : Same (hid M H) (hid M H') := fun a o e => by
  obtain ⟨q, e⟩ := hid_some e
  rw [hid_out q]
  exact h a o q e

/-! ### slots -/
inductive Sl where
  | un
  | d (x : PyData)
  | own (l : Addr) (xs : List PyData)
  | well (w : Addr)
  | raw (v : V)

def WellAt (H : Hp) (w : Addr) : Prop := ∃ n b c : Int, H w = some (.lst [.int n, .int b, .int c]) ∧ 0 ≤ n ∧ 0 ≤ b ∧ b < 1099511627776

def SlotOk (K : PySem.W.Frag) (M : List Addr) (H : Hp) (ov : Option V) : Sl → Prop
  | .un => True
  | .d x => ∃ v, ov = some v ∧ Dn K (hid M H) v x
  | .own l xs => ov = some (.ref l) ∧ ∃ vs, H l = some (.lst vs) ∧ DnA K (hid M H) vs xs
  | .well w => ov = some (.ref w)
  | .raw v => ov = some v

structure Bs where
  M : List Addr
  Ws : List Addr
  H : Hp

structure Env (K : PySem.W.Frag) (B : Bs) (G : List Hp) (L : List Addr) (H : Hp) (σ : L2.St) (Γ : List Sl) : Prop where
  fr : ∀ a o, a ∉ B.Ws → B.H a = some o → H a = some o
  ws : ∀ w ∈ B.Ws, WellAt H w
  wm : ∀ w ∈ B.Ws, w ∈ B.M
  lm : ∀ m ∈ B.M, ∃ o, B.H m = some o
  lo : ∀ l ∈ L, B.H l = none ∧ ∃ xs, H l = some (.lst xs)
  len : σ.length = Γ.length
  sl : ∀ (i : Nat) (s : Sl), Γ[i]? = some s → SlotOk K (L ++ B.M) H (σ[i]?.join) s
  gh : ∀ g ∈ G, Same g (hid (L ++ B.M) H)
  ow : ∀ (i : Nat) (l : Addr) (xs : List PyData), Γ[i]? = some (.own l xs) → l ∈ L
  ou : ∀ (i j : Nat) (l : Addr) (xs ys : List PyData), Γ[i]? = some (.own l xs) → Γ[j]? = some (.own l ys) → i = j
  we : ∀ (i : Nat) (w : Addr), Γ[i]? = some (.well w) → w ∈ B.Ws

section
variable {K : PySem.W.Frag} {B : Bs} {G : List Hp} {L : List Addr} {H H' : Hp} {σ : L2.St} {Γ : List Sl}

theorem WellAt.ne {w a : Addr} (h : WellAt H w) (n : H a = none) : a ≠ w := by
  rintro rfl
  obtain ⟨_, _, _, e, _⟩ := h
  rw [n] at e; cases e
theorem Env.alive (E : Env K B G L H σ Γ) : ∀ a ∈ L ++ B.M, ∃ o, H a = some o := fun a ha => by
  rcases List.mem_append.mp ha with h | h
  · obtain ⟨_, xs, e⟩ := E.lo a h
    exact ⟨_, e⟩
  · by_cases w : a ∈ B.Ws
    · obtain ⟨n, b, c, e, _⟩ := E.ws a w
      exact ⟨_, e⟩
    · obtain ⟨o, e⟩ := E.lm a h
      exact ⟨o, E.fr a o w e⟩
theorem Env.newM (E : Env K B G L H σ Γ) {p : Addr} (h : H p = none) : p ∉ L ++ B.M := fun q => by
  obtain ⟨o, e⟩ := E.alive p q
  rw [h] at e; cases e
theorem Env.lW (E : Env K B G L H σ Γ) {l : Addr} (h : l ∈ L) : l ∉ B.Ws := fun w => by
  obtain ⟨o, e⟩ := E.lm l (E.wm l w)
  rw [(E.lo l h).1] at e; cases e
/-- all but the wells is kept -/
theorem Env.step (E : Env K B G L H σ Γ) (h1 : ∀ a o, a ∉ B.Ws → H a = some o → H' a = some o) (h2 : ∀ w ∈ B.Ws, WellAt H' w) :
    Env K B G L H' σ Γ ∧ Same (hid (L ++ B.M) H) (hid (L ++ B.M) H') := by
  have hs : Same (hid (L ++ B.M) H) (hid (L ++ B.M) H') := hid_same fun a o q e => h1 a o (fun w => q (List.mem_append_right _ (E.wm a w))) e
  refine ⟨⟨fun a o w e => h1 a o w (E.fr a o w e), h2, E.wm, E.lm, fun l hl => ?_, E.len, fun i s hi => ?_, fun p hp => (E.gh p hp).trans hs, E.ow, E.ou, E.we⟩, hs⟩
  · obtain ⟨e, xs, q⟩ := E.lo l hl
    exact ⟨e, xs, h1 l _ (E.lW hl) q⟩
  · have q := E.sl i s hi
    cases s with
    | un => trivial
    | d x =>
      obtain ⟨v, e, dn⟩ := q
      exact ⟨v, e, dn.mono hs⟩
    | own l xs =>
      obtain ⟨e, vs, hl, dn⟩ := q
      exact ⟨e, vs, h1 l _ (E.lW (E.ow i l xs hi)) hl, dn.mono hs⟩
    | well w => exact q
    | raw v => exact q
theorem Env.ext (E : Env K B G L H σ Γ) (h : Same H H') : Env K B G L H' σ Γ ∧ Same (hid (L ++ B.M) H) (hid (L ++ B.M) H') :=
  E.step (fun a o _ e => h a o e) fun w hw => by
    obtain ⟨n, b, c, e, q⟩ := E.ws w hw
    exact ⟨n, b, c, h _ _ e, q⟩
theorem same_upd {H : Hp} {p : Addr} {o : HO} (h : H p = none) : Same H (upd H p o) := fun b x e => by
  rw [upd_ne (ne_of_none e h)]
  exact e
theorem hid_new {M : List Addr} {H : Hp} {p : Addr} {o : HO} (h : p ∉ M) : hid M (upd H p o) p = some o := by
  rw [hid_out h]
  exact upd_same
theorem Env.get (E : Env K B G L H σ Γ) {i : Nat} {x : PyData} (h : Γ[i]? = some (.d x)) : ∃ v, σ[i]? = some (some v) ∧ Dn K (hid (L ++ B.M) H) v x := by
  obtain ⟨v, e, dn⟩ := E.sl i _ h
  refine ⟨v, ?_, dn⟩
  cases q : σ[i]? with
  | none => rw [q] at e; cases e
  | some ov =>
    rw [q] at e
    rw [show ov = some v from e]
theorem Env.getW (E : Env K B G L H σ Γ) {i : Nat} {w : Addr} (h : Γ[i]? = some (.well w)) : σ[i]? = some (some (.ref w)) := by
  have e := E.sl i _ h
  cases q : σ[i]? with
  | none => rw [q] at e; cases e
  | some ov =>
    rw [q] at e
    rw [show ov = some (.ref w) from e]
theorem Env.getO (E : Env K B G L H σ Γ) {i : Nat} {l : Addr} {xs : List PyData} (h : Γ[i]? = some (.own l xs)) : σ[i]? = some (some (.ref l)) ∧ ∃ vs, H l = some (.lst vs) ∧ DnA K (hid (L ++ B.M) H) vs xs := by
  have e := E.sl i _ h
  obtain ⟨e, r⟩ := e
  refine ⟨?_, r⟩
  cases q : σ[i]? with
  | none => rw [q] at e; cases e
  | some ov =>
    rw [q] at e
    rw [show ov = some (.ref l) from e]
/-- a slot gets data -/
theorem Env.put (E : Env K B G L H σ Γ) (i : Nat) {v : V} {x : PyData} (h : Dn K (hid (L ++ B.M) H) v x) : Env K B G L H (σ.set i (some v)) (Γ.set i (.d x)) := by
  have g : ∀ (j : Nat) (s : Sl), (Γ.set i (.d x))[j]? = some s → (j = i ∧ s = .d x ∧ j < Γ.length) ∨ (j ≠ i ∧ Γ[j]? = some s) := fun j s hj => by
    by_cases e : j = i
    · subst e
      refine .inl ⟨rfl, ?_⟩
      by_cases hl : j < Γ.length
      · rw [List.getElem?_set_self hl] at hj
        exact ⟨(Option.some.inj hj).symm, hl⟩
      · rw [List.getElem?_eq_none (by rw [List.length_set]; omega)] at hj
        cases hj
    · rw [List.getElem?_set_ne (Ne.symm e)] at hj
      exact .inr ⟨e, hj⟩
  refine ⟨E.fr, E.ws, E.wm, E.lm, E.lo, by rw [List.length_set, List.length_set]; exact E.len, fun j s hj => ?_, E.gh, fun j l xs hj => ?_, fun j k l xs ys hj hk => ?_, fun j w hj => ?_⟩
  · rcases g j s hj with ⟨rfl, rfl, hl⟩ | ⟨e, hj⟩
    · refine ⟨v, ?_, h⟩
      rw [List.getElem?_set_self (by rw [E.len]; exact hl)]
      rfl
    · rw [List.getElem?_set_ne (Ne.symm e)]
      exact E.sl j s hj
  · rcases g j _ hj with ⟨_, e, _⟩ | ⟨_, hj⟩
    · cases e
    · exact E.ow j l xs hj
  · rcases g j _ hj with ⟨_, e, _⟩ | ⟨_, hj⟩
    · cases e
    · rcases g k _ hk with ⟨_, e, _⟩ | ⟨_, hk⟩
      · cases e
      · exact E.ou j k l xs ys hj hk
  · rcases g j _ hj with ⟨_, e, _⟩ | ⟨_, hj⟩
    · cases e
    · exact E.we j w hj
end

/-! ### what evaluates to what -/
section
variable (K : PySem.W.Frag) (B : Bs) (G : List Hp) (L : List Addr) (Γ : List Sl)
/-- the step that an evaluation may take -/
structure Go (H H' : Hp) (σ : L2.St) : Prop where
  env : Env K B G L H' σ Γ
  sm : Same (hid (L ++ B.M) H) (hid (L ++ B.M) H')
  kp : ∀ l ∈ L, ∀ o, H l = some o → H' l = some o
  rl : ∀ a o, a ∉ B.Ws → H a = some o → H' a = some o
def EvP (te : TE) (k : PyData → Prop) : Prop := ∀ (σ : L2.St) (H : Hp) (Q : VK), Env K B G L H σ Γ →
  (∀ v d H', Go K B G L Γ H H' σ → Dn K (hid (L ++ B.M) H') v d → k d → Q v H') → te σ H Q
/-- a new list -/
def EvN (te : TE) (k : List PyData → Prop) : Prop := ∀ (σ : L2.St) (H : Hp) (Q : VK), Env K B G L H σ Γ →
  (∀ p vs ds H', Go K B G L Γ H H' σ → H p = none → H' p = some (.lst vs) → DnA K (hid (p :: (L ++ B.M)) H') vs ds → k ds → Q (.ref p) H') → te σ H Q
def EvA (ta : TA) (k : List PyData → Prop) : Prop := ∀ (σ : L2.St) (H : Hp) (Q : List V → Hp → Prop), Env K B G L H σ Γ →
  (∀ vs ds H', Go K B G L Γ H H' σ → DnA K (hid (L ++ B.M) H') vs ds → k ds → Q vs H') → ta σ H Q
def EvT (tt : TT) (k : Bool → Prop) : Prop := ∀ (σ : L2.St) (H : Hp) (Q : Bool → Hp → Prop), Env K B G L H σ Γ →
  (∀ b H', Go K B G L Γ H H' σ → k b → Q b H') → tt σ H Q
/-- an operation on values -/
def ROk (r : R2) (x y : PyData) (k : PyData → Prop) : Prop := ∀ (σ : L2.St) (H : Hp) (Q : VK) (v u : V), Env K B G L H σ Γ → Dn K (hid (L ++ B.M) H) v x → Dn K (hid (L ++ B.M) H) u y →
  (∀ z d H', Go K B G L Γ H H' σ → Dn K (hid (L ++ B.M) H') z d → k d → Q z H') → r v u H Q
def UOk (r : V → Hp → VK → Prop) (x : PyData) (k : PyData → Prop) : Prop := ∀ (σ : L2.St) (H : Hp) (Q : VK) (v : V), Env K B G L H σ Γ → Dn K (hid (L ++ B.M) H) v x →
  (∀ z d H', Go K B G L Γ H H' σ → Dn K (hid (L ++ B.M) H') z d → k d → Q z H') → r v H Q
def COk (r : List V → Hp → VK → Prop) (ds : List PyData) (k : PyData → Prop) : Prop := ∀ (σ : L2.St) (H : Hp) (Q : VK) (vs : List V), Env K B G L H σ Γ → DnA K (hid (L ++ B.M) H) vs ds →
  (∀ z d H', Go K B G L Γ H H' σ → Dn K (hid (L ++ B.M) H') z d → k d → Q z H') → r vs H Q
end

section
variable {K : PySem.W.Frag} {B : Bs} {G : List Hp} {L : List Addr} {Γ : List Sl} {H H' H2 : Hp} {σ : L2.St}
theorem Go.refl (E : Env K B G L H σ Γ) : Go K B G L Γ H H σ := ⟨E, Same.refl _, fun _ _ _ e => e, fun _ _ _ e => e⟩
theorem Go.trans (a : Go K B G L Γ H H' σ) (b : Go K B G L Γ H' H2 σ) : Go K B G L Γ H H2 σ := ⟨b.env, a.sm.trans b.sm, fun l hl o e => b.kp l hl o (a.kp l hl o e), fun c o w e => b.rl c o w (a.rl c o w e)⟩
/-- all but the wells is kept -/
theorem Go.step (E : Env K B G L H σ Γ) (h1 : ∀ a o, a ∉ B.Ws → H a = some o → H' a = some o) (h2 : ∀ w ∈ B.Ws, WellAt H' w) : Go K B G L Γ H H' σ := by
  obtain ⟨a, b⟩ := E.step h1 h2
  exact ⟨a, b, fun l hl o e => h1 l o (E.lW hl) e, h1⟩
theorem Go.new (E : Env K B G L H σ Γ) {p : Addr} {o : HO} (h : H p = none) : Go K B G L Γ H (upd H p o) σ := by
  obtain ⟨a, b⟩ := E.ext (same_upd (o := o) h)
  exact ⟨a, b, fun l hl o e => same_upd h l o e, fun c o _ e => same_upd h c o e⟩

variable {te ta tb tc : TE} {tt tu : TT} {tr : TA} {k : PyData → Prop} {x y : PyData}
theorem EvP.mono {k' : PyData → Prop} (h : EvP K B G L Γ te k) (f : ∀ d, k d → k' d) : EvP K B G L Γ te k' := fun σ H Q E q => h σ H Q E fun v d H' g dn hk => q v d H' g dn (f d hk)
theorem ev_var {i : Nat} (h : Γ[i]? = some (.d x)) (hk : k x) : EvP K B G L Γ (tVar i) k := fun σ H Q E q => by
  obtain ⟨v, e, dn⟩ := E.get h
  exact ⟨v, e, q v x H (Go.refl E) dn hk⟩
theorem ev_int {i : Int} (hk : k (.int i)) : EvP K B G L Γ (tC (.int i)) k := fun σ H Q E q => q _ _ H (Go.refl E) (.int i) hk
theorem ev_bl {b : Bool} (hk : k (.bool b)) : EvP K B G L Γ (tC (.bl b)) k := fun σ H Q E q => q _ _ H (Go.refl E) (.bl b) hk
theorem ev_non (hk : k .none) : EvP K B G L Γ (tC .non) k := fun σ H Q E q => q _ _ H (Go.refl E) .non hk
theorem ev_str {s : Str} (hk : k (.str s)) : EvP K B G L Γ (tC (.str s)) k := fun σ H Q E q => q _ _ H (Go.refl E) (.str s) hk
theorem ev_op {r : R2} (h : EvP K B G L Γ ta fun x => EvP K B G L Γ tb fun y => ROk K B G L Γ r x y k) : EvP K B G L Γ (tOp r ta tb) k := fun σ H Q E q =>
  h σ H _ E fun v x H1 g1 dn1 h1 => h1 σ H1 _ g1.env fun u y H2 g2 dn2 h2 => h2 σ H2 Q v u g2.env (dn1.mono g2.sm) dn2 fun z d H3 g3 dn3 hk => q z d H3 ((g1.trans g2).trans g3) dn3 hk
theorem ev_un {r : V → Hp → VK → Prop} (h : EvP K B G L Γ ta fun x => UOk K B G L Γ r x k) : EvP K B G L Γ (tUn r ta) k := fun σ H Q E q =>
  h σ H _ E fun v x H1 g1 dn1 h1 => h1 σ H1 Q v g1.env dn1 fun z d H3 g3 dn3 hk => q z d H3 (g1.trans g3) dn3 hk
theorem ev_cb {r : List V → Hp → VK → Prop} (h : EvA K B G L Γ tr fun ds => COk K B G L Γ r ds k) : EvP K B G L Γ (tCB r tr) k := fun σ H Q E q =>
  h σ H _ E fun vs ds H1 g1 dn1 h1 => h1 σ H1 Q vs g1.env dn1 fun z d H3 g3 dn3 hk => q z d H3 (g1.trans g3) dn3 hk
theorem ev_if (h : EvT K B G L Γ tt fun b => (b = true → EvP K B G L Γ ta k) ∧ (b = false → EvP K B G L Γ tb k)) : EvP K B G L Γ (tIf tt ta tb) k := fun σ H Q E q =>
  h σ H _ E fun b H1 g1 ⟨h1, h2⟩ => by
    cases b with
    | true => exact iteT (h1 rfl σ H1 Q g1.env fun v d H3 g3 dn hk => q v d H3 (g1.trans g3) dn hk)
    | false => exact iteF (h2 rfl σ H1 Q g1.env fun v d H3 g3 dn hk => q v d H3 (g1.trans g3) dn hk)
theorem dn_bool {v : V} {b : Bool} (h : Dn K H v (.bool b)) : v = .bl b := by cases h; rfl
theorem dn_int {v : V} {i : Int} (h : Dn K H v (.int i)) : v = .int i := by cases h; rfl
theorem dn_str {v : V} {i : Str} (h : Dn K H v (.str i)) : v = .str i := by cases h; rfl
theorem ev_andV (h : EvP K B G L Γ ta fun x => ∃ b, x = .bool b ∧ (b = true → EvP K B G L Γ tb k) ∧ (b = false → k (.bool false))) : EvP K B G L Γ (tAndV ta tb) k := fun σ H Q E q =>
  h σ H _ E fun v x H1 g1 dn1 ⟨b, e, h1, h2⟩ => by
    subst e
    refine ⟨b, dn_bool dn1, ?_⟩
    cases b with
    | true => exact iteT (h1 rfl σ H1 Q g1.env fun v d H3 g3 dn hk => q v d H3 (g1.trans g3) dn hk)
    | false => exact iteF (q _ _ H1 g1 (.bl false) (h2 rfl))
theorem ev_orV (h : EvP K B G L Γ ta fun x => ∃ b, x = .bool b ∧ (b = false → EvP K B G L Γ tb k) ∧ (b = true → k (.bool true))) : EvP K B G L Γ (tOrV ta tb) k := fun σ H Q E q =>
  h σ H _ E fun v x H1 g1 dn1 ⟨b, e, h1, h2⟩ => by
    subst e
    refine ⟨b, dn_bool dn1, ?_⟩
    cases b with
    | false => exact iteF (h1 rfl σ H1 Q g1.env fun v d H3 g3 dn hk => q v d H3 (g1.trans g3) dn hk)
    | true => exact iteT (q _ _ H1 g1 (.bl true) (h2 rfl))
theorem ev_notV (h : EvP K B G L Γ ta fun x => ∃ b, x = .bool b ∧ k (.bool (!b))) : EvP K B G L Γ (tNotV ta) k := fun σ H Q E q =>
  h σ H _ E fun v x H1 g1 dn1 ⟨b, e, h1⟩ => by
    subst e
    exact ⟨b, dn_bool dn1, q _ _ H1 g1 (.bl _) h1⟩
/-! tests -/
theorem et_test {kb : Bool → Prop} (h : EvP K B G L Γ te fun x => ∃ b, x = .bool b ∧ kb b) : EvT K B G L Γ (tTest te) kb := fun σ H Q E q =>
  h σ H _ E fun v x H1 g1 dn1 ⟨b, e, h1⟩ => by
    subst e
    exact ⟨b, dn_bool dn1, q b H1 g1 h1⟩
theorem et_B {kb : Bool → Prop} (h : EvP K B G L Γ te fun x => ∃ b, x = .bool b ∧ kb b) : EvT K B G L Γ (tB te) kb := et_test h
theorem et_and {kb : Bool → Prop} (h : EvT K B G L Γ tt fun b => (b = true → EvT K B G L Γ tu kb) ∧ (b = false → kb false)) : EvT K B G L Γ (tAnd tt tu) kb := fun σ H Q E q =>
  h σ H _ E fun b H1 g1 ⟨h1, h2⟩ => by
    cases b with
    | true => exact iteT (h1 rfl σ H1 Q g1.env fun b H3 g3 hk => q b H3 (g1.trans g3) hk)
    | false => exact iteF (q false H1 g1 (h2 rfl))
theorem et_or {kb : Bool → Prop} (h : EvT K B G L Γ tt fun b => (b = false → EvT K B G L Γ tu kb) ∧ (b = true → kb true)) : EvT K B G L Γ (tOr tt tu) kb := fun σ H Q E q =>
  h σ H _ E fun b H1 g1 ⟨h1, h2⟩ => by
    cases b with
    | false => exact iteF (h1 rfl σ H1 Q g1.env fun b H3 g3 hk => q b H3 (g1.trans g3) hk)
    | true => exact iteT (q true H1 g1 (h2 rfl))
theorem et_not {kb : Bool → Prop} (h : EvT K B G L Γ tt fun b => kb (!b)) : EvT K B G L Γ (tNot tt) kb := fun σ H Q E q =>
  h σ H _ E fun b H1 g1 h1 => q (!b) H1 g1 h1
theorem EvT.mono {kb kb' : Bool → Prop} (h : EvT K B G L Γ tt kb) (f : ∀ b, kb b → kb' b) : EvT K B G L Γ tt kb' := fun σ H Q E q => h σ H Q E fun b H' g hk => q b H' g (f b hk)
/-! arguments -/
theorem ea_nil {kl : List PyData → Prop} (h : kl []) : EvA K B G L Γ tNil kl := fun σ H Q E q => q [] [] H (Go.refl E) .nil h
theorem ea_cons {kl : List PyData → Prop} (h : EvP K B G L Γ te fun d => EvA K B G L Γ tr fun ds => kl (d :: ds)) : EvA K B G L Γ (tCons te tr) kl := fun σ H Q E q =>
  h σ H _ E fun v d H1 g1 dn1 h1 => h1 σ H1 _ g1.env fun vs ds H2 g2 dn2 hk => q (v :: vs) (d :: ds) H2 (g1.trans g2) (.cons (dn1.mono g2.sm) dn2) hk
theorem sz_ok {n : Nat} (h : n ≤ 1000000) : n ≤ sizeLine := Nat.le_trans h (by decide)
theorem ev_tup (h : EvA K B G L Γ tr fun ds => ds.length ≤ 1000000 ∧ k (.tuple ds)) : EvP K B G L Γ (tTup tr) k := fun σ H Q E q =>
  h σ H _ E fun vs ds H1 g1 dn1 ⟨hl, hk⟩ => ⟨by rw [dn1.length]; exact sz_ok hl, fun p hp => by
    have g2 := Go.new (o := .tup vs) g1.env hp
    exact q _ _ _ (g1.trans g2) (.tup (.inl (.inl (hid_new (g1.env.newM hp)))) (dn1.mono g2.sm)) hk⟩
theorem hid_none {M : List Addr} {H : Hp} {p : Addr} (h : H p = none) : hid M H p = none := by
  unfold hid
  split
  · rfl
  · exact h
theorem hid_keep {M : List Addr} {H H' : Hp} {p : Addr} (hp : H p = none) (h : Same H H') : Same (hid M H) (hid (p :: M) H') := fun a o e => by
  obtain ⟨q, e⟩ := hid_some e
  rw [hid_out (fun z => by
    rcases List.mem_cons.mp z with z | z
    · rw [z, hp] at e; cases e
    · exact q z)]
  exact h a o e
theorem en_lst {kl : List PyData → Prop} (h : EvA K B G L Γ tr fun ds => ds.length ≤ 1000000 ∧ kl ds) : EvN K B G L Γ (tLst tr) kl := fun σ H Q E q =>
  h σ H _ E fun vs ds H1 g1 dn1 ⟨hl, hk⟩ => ⟨by rw [dn1.length]; exact sz_ok hl, fun p hp => by
    have g2 := Go.new (o := .lst vs) g1.env hp
    refine q p vs ds _ (g1.trans g2) ?_ upd_same (dn1.mono (hid_keep hp (same_upd hp))) hk
    cases e : H p with
    | none => rfl
    | some o =>
      exfalso
      by_cases w : p ∈ L ++ B.M
      · obtain ⟨o', e'⟩ := g1.env.alive p w
        rw [hp] at e'; cases e'
      · have := g1.sm p o (by rw [hid_out w]; exact e)
        rw [hid_none hp] at this; cases this⟩
theorem ev_new (h : EvN K B G L Γ te fun ds => k (.list ds)) : EvP K B G L Γ te k := fun σ H Q E q =>
  h σ H Q E fun p vs ds H' g hp e dn hk => q _ _ H' g (.lst (by rw [hid_out (E.newM hp)]; exact e) (dn.mono (hid_less _ fun a ha => List.mem_cons_of_mem _ ha))) hk
theorem ev_lst (h : EvA K B G L Γ tr fun ds => ds.length ≤ 1000000 ∧ k (.list ds)) : EvP K B G L Γ (tLst tr) k := ev_new (en_lst h)
end
end DL
namespace DL
open PySem PySem.Spec PyProof.Rows L2
section
variable {K : PySem.W.Frag} {B : Bs} {G : List Hp} {L : List Addr} {Γ : List Sl} {H H' H2 : Hp} {σ : L2.St}
variable {te ta tb tc : TE} {tt tu : TT} {tr : TA} {k : PyData → Prop} {x y : PyData}

/-! ### operators -/
theorem rok_i0 {f : Int → Int → Int} {i j : Int} (hk : k (.int (f i j))) : ROk K B G L Γ (rI0 fun i j => .int (f i j)) (.int i) (.int j) k := fun σ H Q v u E d1 d2 q =>
  ⟨i, j, dn_int d1, dn_int d2, q _ _ H (Go.refl E) (.int _) hk⟩
theorem rok_b0 {f : Int → Int → Bool} {i j : Int} (hk : k (.bool (f i j))) : ROk K B G L Γ (rI0 fun i j => .bl (f i j)) (.int i) (.int j) k := fun σ H Q v u E d1 d2 q =>
  ⟨i, j, dn_int d1, dn_int d2, q _ _ H (Go.refl E) (.bl _) hk⟩
theorem rok_i {C : Int → Int → Prop} {f : Int → Int → Int} {i j : Int} (hc : C i j) (hk : k (.int (f i j))) : ROk K B G L Γ (rI C fun i j => .int (f i j)) (.int i) (.int j) k := fun σ H Q v u E d1 d2 q =>
  ⟨i, j, dn_int d1, dn_int d2, hc, q _ _ H (Go.refl E) (.int _) hk⟩
theorem rok_eqI {i j : Int} (hk : k (.bool (decide (i = j)))) : ROk K B G L Γ rEq (.int i) (.int j) k := fun σ H Q v u E d1 d2 q => by
  rw [dn_int d1, dn_int d2]
  refine ⟨rfl, ?_⟩
  have e : decide ((V.int i) = V.int j) = decide (i = j) := by
    by_cases h : i = j
    · subst h; simp
    · rw [decide_eq_false h, decide_eq_false (fun z => h (V.int.inj z))]
  rw [e]
  exact q _ _ H (Go.refl E) (.bl _) hk
theorem rok_neI {i j : Int} (hk : k (.bool (!decide (i = j)))) : ROk K B G L Γ rNe (.int i) (.int j) k := fun σ H Q v u E d1 d2 q => by
  rw [dn_int d1, dn_int d2]
  refine ⟨rfl, ?_⟩
  have e : decide ((V.int i) = V.int j) = decide (i = j) := by
    by_cases h : i = j
    · subst h; simp
    · rw [decide_eq_false h, decide_eq_false (fun z => h (V.int.inj z))]
  rw [e]
  exact q _ _ H (Go.refl E) (.bl _) hk
theorem rok_neS {i j : Str} (hk : k (.bool (!decide (i = j)))) : ROk K B G L Γ rNe (.str i) (.str j) k := fun σ H Q v u E d1 d2 q => by
  rw [dn_str d1, dn_str d2]
  refine ⟨rfl, ?_⟩
  have e : decide ((V.str i) = V.str j) = decide (i = j) := by
    by_cases h : i = j
    · subst h; simp
    · rw [decide_eq_false h, decide_eq_false (fun z => h (V.str.inj z))]
  rw [e]
  exact q _ _ H (Go.refl E) (.bl _) hk
theorem rok_isB {i j : Bool} (hk : k (.bool (decide (i = j)))) : ROk K B G L Γ rIsB (.bool i) (.bool j) k := fun σ H Q v u E d1 d2 q =>
  ⟨i, j, dn_bool d1, dn_bool d2, q _ _ H (Go.refl E) (.bl _) hk⟩
theorem rok_notB {i j : Bool} (hk : k (.bool (!decide (i = j)))) : ROk K B G L Γ rNotB (.bool i) (.bool j) k := fun σ H Q v u E d1 d2 q =>
  ⟨i, j, dn_bool d1, dn_bool d2, q _ _ H (Go.refl E) (.bl _) hk⟩
theorem dna_at {vs : List V} {ds : List PyData} (h : DnA K H vs ds) {i : Int} {d : PyData} (e : atI ds i = some d) : ∃ v, atI vs i = some v ∧ Dn K H v d := by
  unfold atI at e ⊢
  rw [h.length]
  cases q : ixN ds.length i with
  | none => rw [q] at e; cases e
  | some j =>
    rw [q] at e
    exact h.get e
theorem rok_ixT {ds : List PyData} {i : Int} {d : PyData} (e : atI ds i = some d) (hk : k d) : ROk K B G L Γ (rIxT K) (.tuple ds) (.int i) k := fun σ H Q v u E d1 d2 q => by
  cases d1 with
  | tup h1 h2 =>
    obtain ⟨w, e2, dn⟩ := dna_at h2 e
    exact ⟨_, _, i, w, rfl, dn_int d2, Same.sqt (hid_sub _ _) h1, e2, q _ _ H (Go.refl E) dn hk⟩
theorem rok_ixL {ds : List PyData} {i : Int} {d : PyData} (e : atI ds i = some d) (hk : k d) : ROk K B G L Γ (rIxL K) (.list ds) (.int i) k := fun σ H Q v u E d1 d2 q => by
  cases d1 with
  | lst h1 h2 =>
    obtain ⟨w, e2, dn⟩ := dna_at h2 e
    exact ⟨_, _, i, w, rfl, dn_int d2, .inl (.inl (hid_sub _ _ _ _ h1)), e2, q _ _ H (Go.refl E) dn hk⟩
theorem rok_ixsT {ds : List PyData} {i : Int} {d : PyData} (e : atI ds i = some d) (hk : k d) : ROk K B G L Γ (rIx K) (.tuple ds) (.int i) k := fun σ H Q v u E d1 d2 q =>
  .inr (.inl (rok_ixT e hk σ H Q v u E d1 d2 q))
theorem rok_ixsL {ds : List PyData} {i : Int} {d : PyData} (e : atI ds i = some d) (hk : k d) : ROk K B G L Γ (rIx K) (.list ds) (.int i) k := fun σ H Q v u E d1 d2 q =>
  .inl (rok_ixL e hk σ H Q v u E d1 d2 q)
/-- tuple + tuple -/
theorem rok_catT {ds es : List PyData} (hl : ds.length + es.length ≤ 1000000) (hk : k (.tuple (ds ++ es))) : ROk K B G L Γ (rCatA K) (.tuple ds) (.tuple es) k := fun σ H Q v u E d1 d2 q => by
  cases d1 with
  | @tup a xs _ h1 h2 =>
    cases d2 with
    | @tup b ys _ h3 h4 =>
      refine ⟨a, b, xs, ys, rfl, rfl, Same.sqt (hid_sub _ _) h1, Same.sqt (hid_sub _ _) h3, by rw [h2.length, h4.length]; exact sz_ok hl, fun e => ?_, fun _ e => ?_, fun _ _ p hp => ?_⟩
      · subst e
        have z : ds = [] := List.eq_nil_of_length_eq_zero h2.length.symm
        subst z
        exact q _ _ H (Go.refl E) (.tup h3 h4) hk
      · subst e
        have z : es = [] := List.eq_nil_of_length_eq_zero h4.length.symm
        subst z
        rw [List.append_nil] at hk
        exact q _ _ H (Go.refl E) (.tup h1 h2) hk
      · have g := Go.new (o := .tup (xs ++ ys)) E hp
        exact q _ _ _ g (.tup (.inl (.inl (hid_new (E.newM hp)))) (DnA.append (h2.mono g.sm) (h4.mono g.sm))) hk
/-- list + list -/
theorem rok_catL {ds es : List PyData} (hl : ds.length + es.length ≤ 1000000) (hk : k (.list (ds ++ es))) : ROk K B G L Γ rCat (.list ds) (.list es) k := fun σ H Q v u E d1 d2 q => by
  cases d1 with
  | @lst a xs _ h1 h2 =>
    cases d2 with
    | @lst b ys _ h3 h4 =>
      refine ⟨a, b, xs, ys, rfl, rfl, hid_sub _ _ _ _ h1, hid_sub _ _ _ _ h3, by rw [h2.length, h4.length]; exact sz_ok hl, fun p hp => ?_⟩
      have g := Go.new (o := .lst (xs ++ ys)) E hp
      exact q _ _ _ g (.lst (hid_new (E.newM hp)) (DnA.append (h2.mono g.sm) (h4.mono g.sm))) hk
theorem DnA.reps {vs : List V} {ds : List PyData} (h : DnA K H vs ds) : ∀ n : Nat, DnA K H (List.replicate n vs).flatten (List.replicate n ds).flatten
  | 0 => .nil
  | n + 1 => by
    rw [List.replicate_succ, List.replicate_succ, List.flatten_cons, List.flatten_cons]
    exact DnA.append h (DnA.reps h n)
/-! unary -/
theorem uok_neg {i : Int} (hk : k (.int (-i))) : UOk K B G L Γ (rU fun i => .int (-i)) (.int i) k := fun σ H Q v E d1 q => ⟨i, dn_int d1, q _ _ H (Go.refl E) (.int _) hk⟩

/-! ### slices -/
def EvO (K : PySem.W.Frag) (B : Bs) (G : List Hp) (L : List Addr) (Γ : List Sl) (to : TO) (ko : Option Int → Prop) : Prop := ∀ (σ : L2.St) (H : Hp) (Q : Option Int → Hp → Prop), Env K B G L H σ Γ →
  (∀ o H', Go K B G L Γ H H' σ → ko o → Q o H') → to σ H Q
theorem eo_no {ko : Option Int → Prop} (h : ko none) : EvO K B G L Γ tNoPart ko := fun σ H Q E q => q none H (Go.refl E) h
theorem eo_some {ko : Option Int → Prop} (h : EvP K B G L Γ te fun d => ∃ i, d = .int i ∧ ko (some i)) : EvO K B G L Γ (tPart te) ko := fun σ H Q E q =>
  h σ H _ E fun v d H1 g1 dn ⟨i, e, hk⟩ => by
    subst e
    exact ⟨i, dn_int dn, q _ H1 g1 hk⟩
def cutD (ds : List PyData) (lo hi : Option Int) : List PyData := (ds.drop (HT.sIx ds.length 0 lo)).take (HT.sIx ds.length ds.length hi - HT.sIx ds.length 0 lo)
theorem dna_cut {vs : List V} {ds : List PyData} (h : DnA K H vs ds) (lo hi : Option Int) : DnA K H (cutV vs lo hi) (cutD ds lo hi) := by
  unfold cutV cutD
  rw [h.length]
  exact (h.drop _).take _
def SOk (K : PySem.W.Frag) (B : Bs) (G : List Hp) (L : List Addr) (Γ : List Sl) (r : V → Option Int → Option Int → Hp → VK → Prop) (x : PyData) (lo hi : Option Int) (k : PyData → Prop) : Prop :=
  ∀ (σ : L2.St) (H : Hp) (Q : VK) (v : V), Env K B G L H σ Γ → Dn K (hid (L ++ B.M) H) v x → (∀ z d H', Go K B G L Γ H H' σ → Dn K (hid (L ++ B.M) H') z d → k d → Q z H') → r v lo hi H Q
theorem ev_sl {r : V → Option Int → Option Int → Hp → VK → Prop} {tl th : TO} (h : EvP K B G L Γ te fun x => EvO K B G L Γ tl fun lo => EvO K B G L Γ th fun hi => SOk K B G L Γ r x lo hi k) : EvP K B G L Γ (tSl r te tl th) k := fun σ H Q E q =>
  h σ H _ E fun v x H1 g1 dn1 h1 => h1 σ H1 _ g1.env fun lo H2 g2 h2 => h2 σ H2 _ g2.env fun hi H3 g3 h3 => h3 σ H3 Q v g3.env ((dn1.mono g2.sm).mono g3.sm) fun z d H4 g4 dn4 hk => q z d H4 (((g1.trans g2).trans g3).trans g4) dn4 hk
theorem sok_tup {ds : List PyData} {lo hi : Option Int} (hk : k (.tuple (cutD ds lo hi))) : SOk K B G L Γ (rSlA K) (.tuple ds) lo hi k := fun σ H Q v E d1 q => by
  cases d1 with
  | @tup a xs _ e1 h2 =>
    refine ⟨a, xs, rfl, Same.sqt (hid_sub _ _) e1, fun e => ?_, fun _ p hp => ?_⟩
    · have z : cutD ds lo hi = ds := by
        unfold cutD
        rw [← h2.length, e.1, e.2, h2.length]
        simp
      rw [z] at hk
      exact q _ _ H (Go.refl E) (.tup e1 h2) hk
    · have g := Go.new (o := .tup (cutV xs lo hi)) E hp
      exact q _ _ _ g (.tup (.inl (.inl (hid_new (E.newM hp)))) (dna_cut (h2.mono g.sm) lo hi)) hk
theorem sok_lst {ds : List PyData} {lo hi : Option Int} (hk : k (.list (cutD ds lo hi))) : SOk K B G L Γ (rSlL K) (.list ds) lo hi k := fun σ H Q v E d1 q => by
  cases d1 with
  | @lst a xs _ e1 h2 =>
    refine ⟨a, xs, rfl, .inl (.inl (hid_sub _ _ _ _ e1)), fun p hp => ?_⟩
    have g := Go.new (o := .lst (cutV xs lo hi)) E hp
    exact q _ _ _ g (.lst (hid_new (E.newM hp)) (dna_cut (h2.mono g.sm) lo hi)) hk

/-! ### calls of built-ins -/
def rLenQ (K : PySem.W.Frag) : List V → Hp → VK → Prop := fun xs H Q => ∃ p ys, xs = [.ref p] ∧ (SqL K H p ys ∨ SqT K H p ys) ∧ Q (.int ys.length) H
theorem cok_lenT {ds : List PyData} (hk : k (.int ds.length)) : COk K B G L Γ (fun xs H Q => ∃ p ys, xs = [.ref p] ∧ (SqL K H p ys ∨ SqT K H p ys) ∧ Q (.int ys.length) H) [.tuple ds] k := fun σ H Q vs E d1 q => by
  cases d1 with
  | cons h1 h2 =>
    cases h2
    cases h1 with
    | @tup a xs _ e1 h2 =>
      refine ⟨a, xs, rfl, .inr (Same.sqt (hid_sub _ _) e1), ?_⟩
      rw [h2.length]
      exact q _ _ H (Go.refl E) (.int _) hk
theorem cok_lenL {ds : List PyData} (hk : k (.int ds.length)) : COk K B G L Γ (fun xs H Q => ∃ p ys, xs = [.ref p] ∧ (SqL K H p ys ∨ SqT K H p ys) ∧ Q (.int ys.length) H) [.list ds] k := fun σ H Q vs E d1 q => by
  cases d1 with
  | cons h1 h2 =>
    cases h2
    cases h1 with
    | @lst a xs _ e1 h2 =>
      refine ⟨a, xs, rfl, .inl (.inl (.inl (hid_sub _ _ _ _ e1))), ?_⟩
      rw [h2.length]
      exact q _ _ H (Go.refl E) (.int _) hk
theorem cok_abs {i : Int} (hk : k (.int (if i < 0 then -i else i))) : COk K B G L Γ (fun xs H Q => ∃ i, xs = [.int i] ∧ Q (.int (if i < 0 then -i else i)) H) [.int i] k := fun σ H Q vs E d1 q => by
  cases d1 with
  | cons h1 h2 =>
    cases h2
    cases h1
    exact ⟨i, rfl, q _ _ H (Go.refl E) (.int _) hk⟩
theorem cok_intI {i : Int} (hk : k (.int i)) : COk K B G L Γ (fun xs H Q => (∃ i, xs = [.int i] ∧ Q (.int i) H) ∨ ∃ k, xs = [.bl k] ∧ Q (.int (if k then 1 else 0)) H) [.int i] k := fun σ H Q vs E d1 q => by
  cases d1 with
  | cons h1 h2 =>
    cases h2
    cases h1
    exact .inl ⟨i, rfl, q _ _ H (Go.refl E) (.int _) hk⟩
theorem cok_gcd {i j : Int} (hk : k (.int (Nat.gcd i.natAbs j.natAbs : Nat))) : COk K B G L Γ rGcd [.int i, .int j] k := fun σ H Q vs E d1 q => by
  cases d1 with
  | cons h1 h2 =>
    cases h2 with
    | cons h2 h3 =>
      cases h3
      cases h1
      cases h2
      exact ⟨i, j, rfl, q _ _ H (Go.refl E) (.int _) hk⟩
theorem cok_all {bs : List Bool} (hk : k (.bool (bs.all id))) : COk K B G L Γ (rAll K) [.list (bs.map .bool)] k := fun σ H Q vs E d1 q => by
  cases d1 with
  | cons h1 h2 =>
    cases h2
    cases h1 with
    | @lst a xs _ e1 h2 =>
      have e := h2.bools
      subst e
      exact ⟨a, bs, rfl, .inl (.inl (hid_sub _ _ _ _ e1)), q _ _ H (Go.refl E) (.bl _) hk⟩
theorem Go.fresh (E : Env K B G L H σ Γ) (g : Go K B G L Γ H H' σ) {p : Addr} (hp : H' p = none) : H p = none := by
  cases e : H p with
  | none => rfl
  | some o =>
    exfalso
    by_cases w : p ∈ L ++ B.M
    · obtain ⟨o', e'⟩ := g.env.alive p w
      rw [hp] at e'; cases e'
    · have := g.sm p o (by rw [hid_out w]; exact e)
      rw [hid_none hp] at this; cases this
theorem en_list {kl : List PyData → Prop} (h : EvP K B G L Γ te fun d => ∃ ds, (d = .tuple ds ∨ d = .list ds) ∧ kl ds) :
    EvN K B G L Γ (tCB (fun xs H Q => ∃ p ys, xs = [.ref p] ∧ (SqL K H p ys ∨ SqT K H p ys) ∧ ∀ l, H l = none → Q (.ref l) (upd H l (.lst ys))) (tCons te tNil)) kl := fun σ H Q E q =>
  h σ H _ E fun v d H1 g1 dn ⟨ds, e, hk⟩ => by
    rcases e with rfl | rfl
    · cases dn with
      | @tup a xs _ e1 h2 =>
        refine ⟨a, xs, rfl, .inr (Same.sqt (hid_sub _ _) e1), fun l hl => ?_⟩
        have g2 := Go.new (o := .lst xs) g1.env hl
        exact q l xs ds _ (g1.trans g2) (Go.fresh E g1 hl) upd_same (h2.mono (hid_keep hl (same_upd hl))) hk
    · cases dn with
      | @lst a xs _ e1 h2 =>
        refine ⟨a, xs, rfl, .inl (.inl (.inl (hid_sub _ _ _ _ e1))), fun l hl => ?_⟩
        have g2 := Go.new (o := .lst xs) g1.env hl
        exact q l xs ds _ (g1.trans g2) (Go.fresh E g1 hl) upd_same (h2.mono (hid_keep hl (same_upd hl))) hk
/-- tuple(x) of a list (data) -/
theorem cok_tupL {ds : List PyData} (hk : k (.tuple ds)) : COk K B G L Γ (fun xs H Q => ∃ p ys, xs = [.ref p] ∧ ((SqL K H p ys ∧ ∀ l, H l = none → Q (.ref l) (upd H l (.tup ys))) ∨ (SqT K H p ys ∧ Q (.ref p) H))) [.list ds] k := fun σ H Q vs E d1 q => by
  cases d1 with
  | cons h1 h2 =>
    cases h2
    cases h1 with
    | @lst a xs _ e1 h2 =>
      refine ⟨a, xs, rfl, .inl ⟨.inl (.inl (hid_sub _ _ _ _ e1)), fun l hl => ?_⟩⟩
      have g2 := Go.new (o := .tup xs) E hl
      exact q _ _ _ g2 (.tup (.inl (.inl (hid_new (E.newM hl)))) (h2.mono g2.sm)) hk
/-! ### isinstance -/
def tyD : PyData → String
  | .none => "NoneType"
  | .bool _ => "bool"
  | .int _ => "int"
  | .str _ => "str"
  | .list _ => "list"
  | .tuple _ => "tuple"
  | .dict _ => "dict"
theorem sqt_ty {a : Addr} {xs : List V} (h : SqT K H a xs) : TyX K H (.ref a) (.type "tuple") := by
  rcases h with (h | ⟨o, h⟩) | ⟨o, its, n, h1, h2, _⟩
  · exact .base (.tup h)
  · exact .fTuple h
  · exact .kTuple h1 h2
theorem dn_ty {v : V} {d : PyData} (h : Dn K H v d) : TyX K H v (.type (tyD d)) := by
  cases h with
  | non => exact .base .non
  | bl b => exact .base (.bl b)
  | int i => exact .base (.int i)
  | str x => exact .base (.str x)
  | lst h1 h2 => exact .base (.lst h1)
  | tup h1 h2 => exact sqt_ty h1
  | emp h => exact .base (.dK h)
theorem ev_isi {n : String} (h : EvP K B G L Γ te fun d => ∃ b, kitB (tyD d) n = some b ∧ k (.bool b)) : EvP K B G L Γ (tCB (rIsi K) (tCons te (tCons (tC (.ty n)) tNil))) k := fun σ H Q E q =>
  h σ H _ E fun v d H1 g1 dn ⟨b, e, hk⟩ => ⟨v, .ty n, .type (tyD d), .type n, b, rfl, .ty n, dn_ty (dn.mono (hid_sub _ _)), kit_ty e, q _ _ H1 g1 (.bl b) hk⟩
end
end DL
namespace DL
open PySem PySem.Spec PyProof.Rows L2

/-! ### statements -/
structure PD where
  nx : List Addr → List Sl → Prop
  rt : PyData → Prop
  bk : List Addr → List Sl → Prop := fun _ _ => False
  ct : List Addr → List Sl → Prop := fun _ _ => False
/-- the heap at a def's end -/
structure Out (B : Bs) (H : Hp) : Prop where
  fr : ∀ a o, a ∉ B.Ws → B.H a = some o → H a = some o
  ws : ∀ w ∈ B.Ws, WellAt H w
structure Mt (K : PySem.W.Frag) (B : Bs) (G : List Hp) (P : PD) (D : Ends) : Prop where
  nx : ∀ L Γ σ H, P.nx L Γ → Env K B G L H σ Γ → D.nx σ H
  rt : ∀ v d H, P.rt d → Out B H → Dn K (hid B.M H) v d → D.rt v H
  bk : ∀ L Γ σ H, P.bk L Γ → Env K B G L H σ Γ → D.bk σ H
  ct : ∀ L Γ σ H, P.ct L Γ → Env K B G L H σ Γ → D.ct σ H
def StP (K : PySem.W.Frag) (B : Bs) (G : List Hp) (L : List Addr) (Γ : List Sl) (ts : TS) (P : PD) : Prop := ∀ (σ : L2.St) (H : Hp) (D : Ends), Env K B G L H σ Γ → Mt K B G P D → ts D σ H
section
variable {K : PySem.W.Frag} {B : Bs} {G : List Hp} {L : List Addr} {Γ : List Sl} {H H' H2 : Hp} {σ : L2.St}
variable {te ta tb tc : TE} {tt tu : TT} {tr : TA} {k : PyData → Prop} {x y : PyData} {P P' : PD} {t u : TS}
theorem Env.out (E : Env K B G L H σ Γ) : Out B H := ⟨E.fr, E.ws⟩
theorem hid_M (L M : List Addr) (H : Hp) : Same (hid (L ++ M) H) (hid M H) := hid_less H fun a h => List.mem_append_right _ h
theorem st_seq (h : StP K B G L Γ t { P with nx := fun L' Γ' => StP K B G L' Γ' u P }) : StP K B G L Γ (tSeq t u) P := fun σ H D E M =>
  h σ H { D with nx := u D } E ⟨fun L' Γ' σ' H' hs E' => hs σ' H' D E' M, M.rt, M.bk, M.ct⟩
theorem st_next (h : P.nx L Γ) : StP K B G L Γ tNext P := fun σ H D E M => M.nx L Γ σ H h E
theorem st_asg {i : Nat} (h : EvP K B G L Γ te fun d => P.nx L (Γ.set i (.d d))) : StP K B G L Γ (tAsg te (gName i)) P := fun σ H D E M =>
  h σ H _ E fun v d H1 g1 dn hk => M.nx _ _ _ _ hk (g1.env.put i dn)
theorem st_drop (h : EvP K B G L Γ te fun d => P.nx L Γ) : StP K B G L Γ (tDrop te) P := fun σ H D E M =>
  h σ H _ E fun v d H1 g1 dn hk => M.nx _ _ _ _ hk g1.env
theorem st_ret (h : EvP K B G L Γ te P.rt) : StP K B G L Γ (tRet te) P := fun σ H D E M =>
  h σ H _ E fun v d H1 g1 dn hk => M.rt _ _ _ hk g1.env.out (dn.mono (hid_M _ _ _))
theorem st_if (h : EvT K B G L Γ tt fun b => (b = true → StP K B G L Γ t P) ∧ (b = false → StP K B G L Γ u P)) : StP K B G L Γ (tIfS tt t u) P := fun σ H D E M =>
  h σ H _ E fun b H1 g1 ⟨h1, h2⟩ => by
    cases b with
    | true => exact iteT (h1 rfl σ H1 D g1.env M)
    | false => exact iteF (h2 rfl σ H1 D g1.env M)
theorem st_cont (h : P.ct L Γ) : StP K B G L Γ tCont P := fun σ H D E M => M.ct L Γ σ H h E
/-- what is known of a slot is forgotten -/
theorem Env.weak (E : Env K B G L H σ Γ) (i : Nat) : Env K B G L H σ (Γ.set i .un) := by
  have g : ∀ (j : Nat) (s : Sl), (Γ.set i .un)[j]? = some s → s = .un ∨ Γ[j]? = some s := fun j s hj => by
    by_cases e : j = i
    · subst e
      by_cases hl : j < Γ.length
      · rw [List.getElem?_set_self hl] at hj
        exact .inl (Option.some.inj hj).symm
      · rw [List.getElem?_eq_none (by rw [List.length_set]; omega)] at hj
        cases hj
    · rw [List.getElem?_set_ne (Ne.symm e)] at hj
      exact .inr hj
  refine ⟨E.fr, E.ws, E.wm, E.lm, E.lo, by rw [List.length_set]; exact E.len, fun j s hj => ?_, E.gh, fun j l xs hj => ?_, fun j k l xs ys hj hk => ?_, fun j w hj => ?_⟩
  · rcases g j s hj with rfl | hj
    · trivial
    · exact E.sl j s hj
  · rcases g j _ hj with e | hj
    · cases e
    · exact E.ow j l xs hj
  · rcases g j _ hj with e | hj
    · cases e
    · rcases g k _ hk with e | hk
      · cases e
      · exact E.ou j k l xs ys hj hk
  · rcases g j _ hj with e | hj
    · cases e
    · exact E.we j w hj
/-- several targets -/
def TgP (K : PySem.W.Frag) (B : Bs) (G : List Hp) (L : List Addr) (Γ : List Sl) (tg : TGs) (ds : List PyData) (kx : List Sl → Prop) : Prop :=
  ∀ (σ : L2.St) (H : Hp) (vs : List V) (Q : L2.St → Hp → Prop), Env K B G L H σ Γ → DnA K (hid (L ++ B.M) H) vs ds → (∀ Γ' σ' , Env K B G L H σ' Γ' → kx Γ' → Q σ' H) → tg vs σ H Q
theorem tg_nil {kx : List Sl → Prop} (h : kx Γ) : TgP K B G L Γ gNil [] kx := fun σ H vs Q E d q => by
  cases d
  exact ⟨rfl, q Γ σ E h⟩
theorem tg_cons {i : Nat} {tg : TGs} {d : PyData} {ds : List PyData} {kx : List Sl → Prop} (h : TgP K B G L (Γ.set i (.d d)) tg ds kx) : TgP K B G L Γ (gCons (gName i) tg) (d :: ds) kx := fun σ H vs Q E dn q => by
  cases dn with
  | cons h1 h2 => exact ⟨_, _, rfl, h _ H _ Q (E.put i h1) h2 q⟩
theorem st_unpack {n : Nat} {tg : TGs} (h : EvP K B G L Γ te fun d => ∃ ds, d = .tuple ds ∧ ds.length = n ∧ TgP K B G L Γ tg ds fun Γ' => P.nx L Γ') : StP K B G L Γ (tAsg te (gTup K n tg)) P := fun σ H D E M =>
  h σ H _ E fun v d H1 g1 dn ⟨ds, e, hn, ht⟩ => by
    subst e
    cases dn with
    | @tup a xs _ e1 h2 =>
      exact ⟨a, xs, rfl, Same.sqt (hid_sub _ _) e1, by rw [h2.length]; exact hn, ht σ H1 xs _ g1.env h2 fun Γ' σ' E' hk => M.nx _ _ _ _ hk E'⟩
theorem st_par {i j : Nat} (h : EvA K B G L Γ tr fun ds => ∃ x y, ds = [x, y] ∧ P.nx L ((Γ.set i (.d x)).set j (.d y))) : StP K B G L Γ (tPar i j tr) P := fun σ H D E M =>
  h σ H _ E fun vs ds H1 g1 dn ⟨x, y, e, hk⟩ => by
    subst e
    cases dn with
    | cons h1 h2 =>
      cases h2 with
      | cons h2 h3 =>
        cases h3
        exact ⟨_, _, rfl, M.nx _ _ _ _ hk ((g1.env.put i h1).put j h2)⟩
theorem st_augI {i : Nat} {f : Int → Int → Int} {a : Int} (h0 : Γ[i]? = some (.d (.int a))) (h : EvP K B G L Γ te fun d => ∃ b, d = .int b ∧ P.nx L (Γ.set i (.d (.int (f a b))))) : StP K B G L Γ (tAug i te (ipI f)) P := fun σ H D E M => by
  obtain ⟨v, e, dn⟩ := E.get h0
  refine ⟨v, e, h σ H _ E fun u d H1 g1 dn1 ⟨b, e1, hk⟩ => ?_⟩
  subst e1
  exact ⟨a, b, dn_int dn, dn_int dn1, M.nx _ _ _ _ hk (g1.env.put i (.int _))⟩

/-! ### local lists -/
theorem Go.keepL {l : Addr} (E : Env K B G L H σ Γ) (g : Go K B G L Γ H H' σ) (hl : H l = none) : Same (hid (L ++ B.M) H) (hid (l :: L ++ B.M) H') := fun a o e => by
  obtain ⟨q, e1⟩ := hid_some e
  have q2 : a ∉ l :: L ++ B.M := fun z => by
    rcases List.mem_cons.mp z with z | z
    · rw [z, hl] at e1; cases e1
    · exact q z
  rw [hid_out q2]
  exact (hid_some (g.sm a o e)).2
/-- a fresh list becomes a slot's own -/
theorem Env.take {l : Addr} {vs : List V} {ds : List PyData} (E : Env K B G L H σ Γ) (g : Go K B G L Γ H H' σ) (hl : H l = none) (h : H' l = some (.lst vs)) (i : Nat)
    (hself : DnA K (hid (l :: (L ++ B.M)) H') vs ds) : Env K B G (l :: L) H' (σ.set i (some (.ref l))) (Γ.set i (.own l ds)) := by
  have E' := g.env
  have hkeep := g.keepL E hl
  have nL : l ∉ L := fun q => by
    obtain ⟨_, xs, e⟩ := E.lo l q
    rw [hl] at e; cases e
  have gt : ∀ (j : Nat) (s : Sl), (Γ.set i (.own l ds))[j]? = some s → (j = i ∧ s = .own l ds ∧ j < Γ.length) ∨ (j ≠ i ∧ Γ[j]? = some s) := fun j s hj => by
    by_cases e : j = i
    · subst e
      refine .inl ⟨rfl, ?_⟩
      by_cases hl : j < Γ.length
      · rw [List.getElem?_set_self hl] at hj
        exact ⟨(Option.some.inj hj).symm, hl⟩
      · rw [List.getElem?_eq_none (by rw [List.length_set]; omega)] at hj
        cases hj
    · rw [List.getElem?_set_ne (Ne.symm e)] at hj
      exact .inr ⟨e, hj⟩
  refine ⟨E'.fr, E'.ws, E'.wm, E'.lm, fun m hm => ?_, by rw [List.length_set, List.length_set]; exact E'.len, fun j s hj => ?_, fun p hp => (E.gh p hp).trans hkeep, fun j m xs hj => ?_, fun j k m xs ys hj hk => ?_, fun j w hj => ?_⟩
  · rcases List.mem_cons.mp hm with rfl | hm
    · refine ⟨?_, _, h⟩
      cases e : B.H m with
      | none => rfl
      | some o =>
        exfalso
        by_cases w : m ∈ B.Ws
        · obtain ⟨_, _, _, q, _⟩ := E.ws m w
          rw [hl] at q; cases q
        · have q := E.fr m o w e
          rw [hl] at q; cases q
    · exact E'.lo m hm
  · rcases gt j s hj with ⟨rfl, rfl, hj'⟩ | ⟨ne, hj'⟩
    · refine ⟨?_, vs, h, hself⟩
      rw [List.getElem?_set_self (by rw [E'.len]; exact hj')]
      rfl
    · rw [List.getElem?_set_ne (Ne.symm ne)]
      have q := E.sl j s hj'
      cases s with
      | un => trivial
      | d x =>
        obtain ⟨v, e, dn⟩ := q
        exact ⟨v, e, dn.mono hkeep⟩
      | own m xs =>
        obtain ⟨e, ws, hm, dnm⟩ := q
        exact ⟨e, ws, g.kp m (E.ow j m xs hj') _ hm, dnm.mono hkeep⟩
      | well w => exact q
      | raw v => exact q
  · rcases gt j _ hj with ⟨_, e, _⟩ | ⟨_, hj⟩
    · cases e
      exact List.mem_cons_self ..
    · exact List.mem_cons_of_mem _ (E'.ow j m xs hj)
  · rcases gt j _ hj with ⟨ej, e, _⟩ | ⟨_, hj⟩
    · rcases gt k _ hk with ⟨ek, e', _⟩ | ⟨_, hk⟩
      · rw [ej, ek]
      · exfalso
        cases e
        exact nL (E'.ow k _ _ hk)
    · rcases gt k _ hk with ⟨ek, e', _⟩ | ⟨_, hk⟩
      · exfalso
        cases e'
        exact nL (E'.ow j _ _ hj)
      · exact E'.ou j k m xs ys hj hk
  · rcases gt j _ hj with ⟨_, e, _⟩ | ⟨_, hj⟩
    · cases e
    · exact E'.we j w hj
/-- x = a new list, kept as the name's own -/
theorem st_own {i : Nat} (h : EvN K B G L Γ te fun ds => ∀ l, P.nx (l :: L) (Γ.set i (.own l ds))) : StP K B G L Γ (tAsg te (gName i)) P := fun σ H D E M =>
  h σ H _ E fun p vs ds H' g hp e dn hk => M.nx _ _ _ _ (hk p) (Env.take E g hp e i dn)
/-- an own list's new content -/
theorem Env.write {i : Nat} {l : Addr} {xs ys : List PyData} {vs : List V} (E : Env K B G L H σ Γ) (hi : Γ[i]? = some (.own l xs)) (dn : DnA K (hid (L ++ B.M) H) vs ys) :
    Env K B G L (upd H l (.lst vs)) σ (Γ.set i (.own l ys)) := by
  have hl := E.ow i l xs hi
  have lM : l ∈ L ++ B.M := List.mem_append_left _ hl
  have hs : Same (hid (L ++ B.M) H) (hid (L ++ B.M) (upd H l (.lst vs))) := fun a o e => by
    obtain ⟨q, e⟩ := hid_some e
    rw [hid_out q, upd_ne (fun (z : a = l) => q (by rw [z]; exact lM))]
    exact e
  have gt : ∀ (j : Nat) (s : Sl), (Γ.set i (.own l ys))[j]? = some s → (j = i ∧ s = .own l ys ∧ j < Γ.length) ∨ (j ≠ i ∧ Γ[j]? = some s) := fun j s hj => by
    by_cases e : j = i
    · subst e
      refine .inl ⟨rfl, ?_⟩
      by_cases hl : j < Γ.length
      · rw [List.getElem?_set_self hl] at hj
        exact ⟨(Option.some.inj hj).symm, hl⟩
      · rw [List.getElem?_eq_none (by rw [List.length_set]; omega)] at hj
        cases hj
    · rw [List.getElem?_set_ne (Ne.symm e)] at hj
      exact .inr ⟨e, hj⟩
  refine ⟨fun a o w e => ?_, fun w hw => ?_, E.wm, E.lm, fun m hm => ?_, by rw [List.length_set]; exact E.len, fun j s hj => ?_, fun p hp => (E.gh p hp).trans hs, fun j m zs hj => ?_, fun j k m zs ws hj hk => ?_, fun j w hj => ?_⟩
  · rw [upd_ne]
    · exact E.fr a o w e
    · rintro rfl
      rw [(E.lo a hl).1] at e; cases e
  · obtain ⟨n, b, c, e, q⟩ := E.ws w hw
    refine ⟨n, b, c, ?_, q⟩
    rw [upd_ne (fun (z : w = l) => E.lW hl (by rw [← z]; exact hw))]
    exact e
  · refine ⟨(E.lo m hm).1, ?_⟩
    by_cases z : m = l
    · exact ⟨vs, by rw [z]; exact upd_same⟩
    · rw [upd_ne z]
      exact (E.lo m hm).2
  · rcases gt j s hj with ⟨rfl, rfl, hj'⟩ | ⟨ne, hj'⟩
    · obtain ⟨e, _⟩ := E.sl j _ hi
      exact ⟨e, vs, upd_same, dn.mono hs⟩
    · have q := E.sl j s hj'
      cases s with
      | un => trivial
      | d x =>
        obtain ⟨v, e, dn⟩ := q
        exact ⟨v, e, dn.mono hs⟩
      | own m zs =>
        obtain ⟨e, ws, hm, dnm⟩ := q
        refine ⟨e, ws, ?_, dnm.mono hs⟩
        rw [upd_ne (fun (z : m = l) => ne (E.ou j i m zs xs hj' (by rw [z]; exact hi)))]
        exact hm
      | well w => exact q
      | raw v => exact q
  · rcases gt j _ hj with ⟨_, e, _⟩ | ⟨_, hj⟩
    · cases e
      exact hl
    · exact E.ow j m zs hj
  · rcases gt j _ hj with ⟨ej, e, _⟩ | ⟨nj, hj⟩
    · rcases gt k _ hk with ⟨ek, e', _⟩ | ⟨_, hk⟩
      · rw [ej, ek]
      · cases e
        rw [ej]
        exact E.ou i k _ _ _ hi hk
    · rcases gt k _ hk with ⟨ek, e', _⟩ | ⟨_, hk⟩
      · cases e'
        rw [ek]
        exact E.ou j i _ _ _ hj hi
      · exact E.ou j k m zs ws hj hk
  · rcases gt j _ hj with ⟨_, e, _⟩ | ⟨_, hj⟩
    · cases e
    · exact E.we j w hj
/-- xs.append(e), xs an own list -/
theorem st_append {i : Nat} {l : Addr} {xs : List PyData} (hi : Γ[i]? = some (.own l xs)) (hz : xs.length < 100000) (h : EvP K B G L Γ te fun d => P.nx L (Γ.set i (.own l (xs ++ [d])))) :
    StP K B G L Γ (tDrop (tBM K "list" rAppend (tVar i) (tCons te tNil))) P := fun σ H D E M => by
  obtain ⟨e, vs, hl, dn⟩ := E.getO hi
  refine ⟨_, e, .inl ⟨rfl, vs, .inl (.inl hl)⟩, h σ H _ E fun v d H1 g1 dn1 hk => ?_⟩
  obtain ⟨e1, ws, hl1, dn2⟩ := g1.env.getO hi
  refine ⟨l, ws, v, rfl, rfl, hl1, ?_, M.nx _ _ _ _ hk (Env.write g1.env hi (dn2.append (.cons dn1 .nil)))⟩
  rw [dn2.length]
  exact Nat.lt_of_lt_of_le hz (by decide)
/-- xs[i] = e, xs an own list -/
theorem st_setOwn {i : Nat} {l : Addr} {xs : List PyData} (hi : Γ[i]? = some (.own l xs)) (h : EvP K B G L Γ te fun d => EvP K B G L Γ tb fun n => ∃ j : Nat, n = .int (j : Int) ∧ j < xs.length ∧ P.nx L (Γ.set i (.own l (xs.set j d)))) :
    StP K B G L Γ (tAsg te (gSub (tVar i) tb rSetL)) P := fun σ H D E M =>
  h σ H _ E fun v d H1 g1 dn1 h2 => by
    obtain ⟨e, vs, hl, dn⟩ := g1.env.getO hi
    refine ⟨_, e, h2 σ H1 _ g1.env fun u n H2 g2 dn2 ⟨j, en, hj, hk⟩ => ?_⟩
    subst en
    obtain ⟨e, ws, hl2, dn3⟩ := g2.env.getO hi
    refine ⟨l, ws, (j : Int), j, rfl, dn_int dn2, hl2, ?_, M.nx _ _ _ _ hk (Env.write g2.env hi (dn3.set j (dn1.mono g2.sm)))⟩
    rw [dn3.length]
    unfold ixN
    rw [if_pos (by omega), if_pos (by omega)]
    simp
/-- reading an own list -/
theorem ev_lenO {i : Nat} {l : Addr} {xs : List PyData} (hi : Γ[i]? = some (.own l xs)) (hk : k (.int xs.length)) : EvP K B G L Γ (tCB (fun xs H Q => ∃ p ys, xs = [.ref p] ∧ (SqL K H p ys ∨ SqT K H p ys) ∧ Q (.int ys.length) H) (tCons (tVar i) tNil)) k := fun σ H Q E q => by
  obtain ⟨e, vs, hl, dn⟩ := E.getO hi
  refine ⟨_, e, l, vs, rfl, .inl (.inl (.inl hl)), ?_⟩
  rw [dn.length]
  exact q _ _ H (Go.refl E) (.int _) hk
theorem ev_ixO {i : Nat} {l : Addr} {xs : List PyData} (hi : Γ[i]? = some (.own l xs)) (h : EvP K B G L Γ tb fun n => ∃ j d, n = .int j ∧ atI xs j = some d ∧ k d) : EvP K B G L Γ (tOp (rIxL K) (tVar i) tb) k := fun σ H Q E q => by
  obtain ⟨e, vs, hl, dn⟩ := E.getO hi
  refine ⟨_, e, h σ H _ E fun u n H2 g2 dn2 ⟨j, d, en, ed, hk⟩ => ?_⟩
  subst en
  obtain ⟨e, ws, hl2, dn3⟩ := g2.env.getO hi
  obtain ⟨w, e2, dn4⟩ := dna_at dn3 ed
  exact ⟨l, ws, j, w, rfl, dn_int dn2, .inl (.inl hl2), e2, q _ _ H2 g2 dn4 hk⟩
theorem ev_tupO {i : Nat} {l : Addr} {xs : List PyData} (hi : Γ[i]? = some (.own l xs)) (hk : k (.tuple xs)) :
    EvP K B G L Γ (tCB (fun xs H Q => ∃ p ys, xs = [.ref p] ∧ ((SqL K H p ys ∧ ∀ l, H l = none → Q (.ref l) (upd H l (.tup ys))) ∨ (SqT K H p ys ∧ Q (.ref p) H))) (tCons (tVar i) tNil)) k := fun σ H Q E q => by
  obtain ⟨e, vs, hl, dn⟩ := E.getO hi
  refine ⟨_, e, l, vs, rfl, .inl ⟨.inl (.inl hl), fun p hp => ?_⟩⟩
  have g2 := Go.new (o := .tup vs) E hp
  exact q _ _ _ g2 (.tup (.inl (.inl (hid_new (E.newM hp)))) (dn.mono g2.sm)) hk
/-- an own list is data from here on -/
theorem Env.freeze {i : Nat} {l : Addr} {L' : List Addr} {xs : List PyData} (E : Env K B G (l :: L') H σ Γ) (hn : l ∉ L') (hi : Γ[i]? = some (.own l xs)) : Env K B G L' H σ (Γ.set i (.d (.list xs))) := by
  have hs : Same (hid (l :: L' ++ B.M) H) (hid (L' ++ B.M) H) := hid_less H fun a h => List.mem_cons_of_mem _ h
  have lM : l ∉ L' ++ B.M := fun z => by
    rcases List.mem_append.mp z with z | z
    · exact hn z
    · obtain ⟨o, e⟩ := E.lm l z
      rw [(E.lo l (List.mem_cons_self ..)).1] at e; cases e
  have gt : ∀ (j : Nat) (s : Sl), (Γ.set i (.d (.list xs)))[j]? = some s → (j = i ∧ s = .d (.list xs) ∧ j < Γ.length) ∨ (j ≠ i ∧ Γ[j]? = some s) := fun j s hj => by
    by_cases e : j = i
    · subst e
      refine .inl ⟨rfl, ?_⟩
      by_cases hl : j < Γ.length
      · rw [List.getElem?_set_self hl] at hj
        exact ⟨(Option.some.inj hj).symm, hl⟩
      · rw [List.getElem?_eq_none (by rw [List.length_set]; omega)] at hj
        cases hj
    · rw [List.getElem?_set_ne (Ne.symm e)] at hj
      exact .inr ⟨e, hj⟩
  refine ⟨E.fr, E.ws, E.wm, E.lm, fun m hm => E.lo m (List.mem_cons_of_mem _ hm), by rw [List.length_set]; exact E.len, fun j s hj => ?_, fun p hp => (E.gh p hp).trans hs, fun j m zs hj => ?_, fun j k m zs ws hj hk => ?_, fun j w hj => ?_⟩
  · rcases gt j s hj with ⟨rfl, rfl, hj'⟩ | ⟨ne, hj'⟩
    · obtain ⟨e, vs, hl, dn⟩ := E.sl j _ hi
      exact ⟨_, e, .lst (by rw [hid_out lM]; exact hl) (dn.mono hs)⟩
    · have q := E.sl j s hj'
      cases s with
      | un => trivial
      | d x =>
        obtain ⟨v, e, dn⟩ := q
        exact ⟨v, e, dn.mono hs⟩
      | own m zs =>
        obtain ⟨e, ws, hm, dnm⟩ := q
        exact ⟨e, ws, hm, dnm.mono hs⟩
      | well w => exact q
      | raw v => exact q
  · rcases gt j _ hj with ⟨_, e, _⟩ | ⟨nj, hj⟩
    · cases e
    · rcases List.mem_cons.mp (E.ow j m zs hj) with z | z
      · subst z
        exact absurd (E.ou j i m zs xs hj hi) nj
      · exact z
  · rcases gt j _ hj with ⟨ej, e, _⟩ | ⟨nj, hj⟩
    · cases e
    · rcases gt k _ hk with ⟨ek, e', _⟩ | ⟨_, hk⟩
      · cases e'
      · exact E.ou j k m zs ws hj hk
  · rcases gt j _ hj with ⟨_, e, _⟩ | ⟨_, hj⟩
    · cases e
    · exact E.we j w hj
theorem st_freeze (i : Nat) {l : Addr} {L' : List Addr} {xs : List PyData} (hi : Γ[i]? = some (.own l xs)) (hn : l ∉ L') (h : StP K B G L' (Γ.set i (.d (.list xs))) t P) : StP K B G (l :: L') Γ t P := fun σ H D E M => h σ H D (E.freeze hn hi) M
end
end DL
namespace DL
open PySem PySem.Spec PyProof.Rows L2
section
variable {K : PySem.W.Frag} {B : Bs} {G : List Hp} {L : List Addr} {Γ : List Sl} {H H' H2 : Hp} {σ : L2.St}
variable {te ta tb tc tl : TE} {tt tu : TT} {tr : TA} {k : PyData → Prop} {x y : PyData} {P P' : PD} {t u : TS}

/-! ### loops -/
theorem Env.gpush (E : Env K B G L H σ Γ) : Env K B (hid (L ++ B.M) H :: G) L H σ Γ := ⟨E.fr, E.ws, E.wm, E.lm, E.lo, E.len, E.sl, fun g hg => by
  rcases List.mem_cons.mp hg with rfl | hg
  · exact Same.refl _
  · exact E.gh g hg, E.ow, E.ou, E.we⟩
theorem Env.gpop {g : Hp} (E : Env K B (g :: G) L H σ Γ) : Env K B G L H σ Γ := ⟨E.fr, E.ws, E.wm, E.lm, E.lo, E.len, E.sl, fun g' hg => E.gh g' (List.mem_cons_of_mem _ hg), E.ow, E.ou, E.we⟩
def PD.inLoop (P : PD) (I : List Addr → List Sl → Prop) : PD := { nx := I, ct := I, bk := P.nx, rt := P.rt }
/-- for x in (a list that is data | a tuple) -/
theorem st_forL {j : Nat} (h : EvP K B G L Γ tl fun d => ∃ ds, d = .list ds ∧ ∃ I : Nat → List Addr → List Sl → Prop, I 0 L Γ ∧
    (∀ i d' L' Γ' g, ds[i]? = some d' → I i L' Γ' → StP K B (g :: G) L' (Γ'.set j (.d d')) t (P.inLoop (I (i + 1)))) ∧ ∀ L' Γ', I ds.length L' Γ' → P.nx L' Γ') :
    StP K B G L Γ (tFor (iList K tl) (gName j) t) P := fun σ H D E M =>
  h σ H _ E fun v d H1 g1 dn ⟨ds, e, I, h0, hs, hd⟩ => by
    subst e
    cases dn with
    | @lst a xs _ e1 h2 =>
      have E1 := g1.env.gpush
      refine ⟨a, rfl, ⟨xs, .inl (.inl (hid_sub _ _ _ _ e1))⟩, for_list (xs := xs) (fun i σ' H' => ∃ L' Γ', I i L' Γ' ∧ Env K B (hid (L ++ B.M) H1 :: G) L' H' σ' Γ') ⟨L, Γ, h0, E1⟩ (fun i σ' H' _ ⟨L', Γ', _, E'⟩ => ?_) (fun i x σ' H' hi ⟨L', Γ', hI, E'⟩ => ?_) (fun σ' H' ⟨L', Γ', hI, E'⟩ => ?_)⟩
      · exact .inl (.inl (hid_sub _ _ _ _ (E'.gh _ (List.mem_cons_self ..) _ _ e1)))
      · obtain ⟨d', e', dn'⟩ := h2.getV hi
        refine hs i d' L' Γ' _ e' hI _ H' _ (E'.put j (dn'.mono (E'.gh _ (List.mem_cons_self ..)))) ⟨fun L2 Γ2 σ2 H2 q E2 => ⟨L2, Γ2, q, E2⟩, M.rt, fun L2 Γ2 σ2 H2 q E2 => M.nx _ _ _ _ q E2.gpop, fun L2 Γ2 σ2 H2 q E2 => ⟨L2, Γ2, q, E2⟩⟩
      · rw [h2.length] at hI
        exact M.nx _ _ _ _ (hd L' Γ' hI) E'.gpop
theorem st_forT {j : Nat} (h : EvP K B G L Γ tl fun d => ∃ ds, d = .tuple ds ∧ ∃ I : Nat → List Addr → List Sl → Prop, I 0 L Γ ∧
    (∀ i d' L' Γ' g, ds[i]? = some d' → I i L' Γ' → StP K B (g :: G) L' (Γ'.set j (.d d')) t (P.inLoop (I (i + 1)))) ∧ ∀ L' Γ', I ds.length L' Γ' → P.nx L' Γ') :
    StP K B G L Γ (tFor (iTup K tl) (gName j) t) P := fun σ H D E M =>
  h σ H _ E fun v d H1 g1 dn ⟨ds, e, I, h0, hs, hd⟩ => by
    subst e
    cases dn with
    | @tup a xs _ e1 h2 =>
      have E1 := g1.env.gpush
      refine ⟨a, rfl, ⟨xs, Same.sqt (hid_sub _ _) e1⟩, for_tup (xs := xs) (fun i σ' H' => ∃ L' Γ', I i L' Γ' ∧ Env K B (hid (L ++ B.M) H1 :: G) L' H' σ' Γ') ⟨L, Γ, h0, E1⟩ (fun i σ' H' _ ⟨L', Γ', _, E'⟩ => ?_) (fun i x σ' H' hi ⟨L', Γ', hI, E'⟩ => ?_) (fun σ' H' ⟨L', Γ', hI, E'⟩ => ?_)⟩
      · exact Same.sqt (hid_sub _ _) (Same.sqt (E'.gh _ (List.mem_cons_self ..)) e1)
      · obtain ⟨d', e', dn'⟩ := h2.getV hi
        refine hs i d' L' Γ' _ e' hI _ H' _ (E'.put j (dn'.mono (E'.gh _ (List.mem_cons_self ..)))) ⟨fun L2 Γ2 σ2 H2 q E2 => ⟨L2, Γ2, q, E2⟩, M.rt, fun L2 Γ2 σ2 H2 q E2 => M.nx _ _ _ _ q E2.gpop, fun L2 Γ2 σ2 H2 q E2 => ⟨L2, Γ2, q, E2⟩⟩
      · rw [h2.length] at hI
        exact M.nx _ _ _ _ (hd L' Γ' hI) E'.gpop
/-- for k in range(n) -/
theorem st_forR {j : Nat} (h : EvA K B G L Γ tr fun vs => ∃ n : Int, vs = [.int n] ∧ -1000000 ≤ n ∧ n ≤ 1000000 ∧ ∃ I : Nat → List Addr → List Sl → Prop, I 0 L Γ ∧
    (∀ i L' Γ', i < n.toNat → I i L' Γ' → StP K B G L' (Γ'.set j (.d (.int (i : Int)))) t (P.inLoop (I (i + 1)))) ∧ ∀ L' Γ', I n.toNat L' Γ' → P.nx L' Γ') :
    StP K B G L Γ (tFor (iRng1 tr) (gName j) t) P := fun σ H D E M =>
  h σ H _ E fun vs ds H1 g1 dn ⟨n, e, hn0, hn, I, h0, hs, hd⟩ => by
    subst e
    cases dn with
    | cons d1 d2 =>
      cases d2
      cases d1
      refine ⟨n, rfl, by omega, by omega, for_range (lo := 0) (n := n.toNat) (fun i σ' H' => ∃ L' Γ', I i L' Γ' ∧ Env K B G L' H' σ' Γ') ⟨L, Γ, h0, g1.env⟩ (fun i σ' H' hi ⟨L', Γ', hI, E'⟩ => ?_) (fun σ' H' ⟨L', Γ', hI, E'⟩ => M.nx _ _ _ _ (hd L' Γ' hI) E')⟩
      have e0 : (0 : Int) + (i : Int) = (i : Int) := Int.zero_add _
      rw [e0]
      exact hs i L' Γ' hi hI _ H' _ (E'.put j (.int _)) ⟨fun L2 Γ2 σ2 H2 q E2 => ⟨L2, Γ2, q, E2⟩, M.rt, M.nx, fun L2 Γ2 σ2 H2 q E2 => ⟨L2, Γ2, q, E2⟩⟩
/-- while -/
theorem st_while (I : Nat → List Addr → List Sl → Prop) (m0 : Nat) (h0 : I m0 L Γ)
    (hs : ∀ m L' Γ', I m L' Γ' → EvT K B G L' Γ' tt fun b => (b = true → StP K B G L' Γ' t (P.inLoop fun L2 Γ2 => ∃ m', m' < m ∧ I m' L2 Γ2)) ∧ (b = false → P.nx L' Γ')) : StP K B G L Γ (tWhile tt t) P := fun σ H D E M =>
  ⟨fun m σ' H' => ∃ L' Γ', I m L' Γ' ∧ Env K B G L' H' σ' Γ', ⟨m0, L, Γ, h0, E⟩, fun m σ' H' ⟨L', Γ', hI, E'⟩ => hs m L' Γ' hI σ' H' _ E' fun b H1 g1 ⟨h1, h2⟩ => by
    cases b with
    | true =>
      refine iteT ⟨fun σ2 H2 => ∃ L2 Γ2, (∃ m', m' < m ∧ I m' L2 Γ2) ∧ Env K B G L2 H2 σ2 Γ2, fun σ2 H2 ⟨L2, Γ2, ⟨m', hm, hI2⟩, E2⟩ => ⟨m', hm, L2, Γ2, hI2, E2⟩, ?_⟩
      exact h1 rfl σ' H1 _ g1.env ⟨fun L2 Γ2 σ2 H2 q E2 => ⟨L2, Γ2, q, E2⟩, M.rt, M.nx, fun L2 Γ2 σ2 H2 q E2 => ⟨L2, Γ2, q, E2⟩⟩
    | false => exact iteF (M.nx _ _ _ _ (h2 rfl) g1.env)⟩

/-! ### comprehensions -/
/-- one more list of one's own, no name's -/
theorem Env.temp {l : Addr} {vs : List V} (E : Env K B G L H σ Γ) (g : Go K B G L Γ H H' σ) (hl : H l = none) (h : H' l = some (.lst vs)) : Env K B G (l :: L) H' σ Γ := by
  have E' := g.env
  have hkeep := g.keepL E hl
  refine ⟨E'.fr, E'.ws, E'.wm, E'.lm, fun m hm => ?_, E'.len, fun j s hj => ?_, fun p hp => (E.gh p hp).trans hkeep, fun j m xs hj => List.mem_cons_of_mem _ (E'.ow j m xs hj), E'.ou, E'.we⟩
  · rcases List.mem_cons.mp hm with rfl | hm
    · refine ⟨?_, _, h⟩
      cases e : B.H m with
      | none => rfl
      | some o =>
        exfalso
        by_cases w : m ∈ B.Ws
        · obtain ⟨_, _, _, q, _⟩ := E.ws m w
          rw [hl] at q; cases q
        · have q := E.fr m o w e
          rw [hl] at q; cases q
    · exact E'.lo m hm
  · have q := E.sl j s hj
    cases s with
    | un => trivial
    | d x =>
      obtain ⟨v, e, dn⟩ := q
      exact ⟨v, e, dn.mono hkeep⟩
    | own m xs =>
      obtain ⟨e, ws, hm, dnm⟩ := q
      exact ⟨e, ws, g.kp m (E.ow j m xs hj) _ hm, dnm.mono hkeep⟩
    | well w => exact q
    | raw v => exact q
def wipeG (Γ : List Sl) : List Nat → List Sl
  | [] => Γ
  | v :: vs => (wipeG Γ vs).set v .un
theorem Env.set_un (E : Env K B G L H σ Γ) (i : Nat) : Env K B G L H (σ.set i none) (Γ.set i .un) := by
  have E2 := E.weak i
  refine ⟨E2.fr, E2.ws, E2.wm, E2.lm, E2.lo, by rw [List.length_set]; exact E2.len, fun j s hj => ?_, E2.gh, E2.ow, E2.ou, E2.we⟩
  by_cases e : j = i
  · subst e
    have : s = .un := by
      by_cases hl : j < Γ.length
      · rw [List.getElem?_set_self hl] at hj
        exact (Option.some.inj hj).symm
      · rw [List.getElem?_eq_none (by rw [List.length_set]; omega)] at hj
        cases hj
    subst this
    trivial
  · rw [List.getElem?_set_ne (Ne.symm e)]
    exact E2.sl j s hj
theorem Env.wipe (E : Env K B G L H σ Γ) : ∀ vs : List Nat, Env K B G L H (L2.wipe σ vs) (wipeG Γ vs)
  | [] => E
  | v :: vs => (Env.wipe E vs).set_un v
/-- a comprehension's turns: J says what is made of the first turns -/
def CompOk (K : PySem.W.Frag) (B : Bs) (G : List Hp) (L : List Addr) (Γ : List Sl) (j : Nat) (tt : TT) (te : TE) (vs : List Nat) (n : Nat) (item : Nat → PyData → Prop) (J : Nat → List PyData → Prop) : Prop :=
  J 0 [] ∧ ∀ i D d' acc, item i d' → J i acc → i < n → EvT K B G (D :: L) ((wipeG Γ vs).set j (.d d')) tt fun b =>
    (b = true → EvP K B G (D :: L) ((wipeG Γ vs).set j (.d d')) te fun y => J (i + 1) (acc ++ [y])) ∧ (b = false → J (i + 1) acc)
/-- the heap and the list so far -/
structure Sofar (K : PySem.W.Frag) (B : Bs) (L : List Addr) (H1 H' : Hp) (D : Addr) (i : Nat) (J : Nat → List PyData → Prop) : Prop where
  rl : ∀ a o, a ∉ B.Ws → H1 a = some o → H' a = some o
  ws : ∀ w ∈ B.Ws, WellAt H' w
  it : ∃ accV acc, J i acc ∧ acc.length ≤ i ∧ H' D = some (.lst accV) ∧ DnA K (hid (D :: (L ++ B.M)) H') accV acc
theorem Go.of_rel (E : Env K B G L H σ Γ) (h1 : ∀ a o, a ∉ B.Ws → H a = some o → H' a = some o) (h2 : ∀ w ∈ B.Ws, WellAt H' w) : Go K B G L Γ H H' σ := Go.step E h1 h2
theorem comp_turn {j n : Nat} {vs : List Nat} {item : Nat → PyData → Prop} {J : Nat → List PyData → Prop} {H1 : Hp} {D : Addr} {i : Nat} {x : V} {d' : PyData} (E1 : Env K B G L H1 σ Γ) (hD : H1 D = none) (C : CompOk K B G L Γ j tt te vs n item J) (hn : n ≤ 100000)
    (S : Sofar K B L H1 H' D i J) (hi : item i d') (hin : i < n) (dn : Dn K (hid (L ++ B.M) H1) x d') :
    tt ((L2.wipe σ vs).set j (some x)) H' fun b H3 => if b = true then te ((L2.wipe σ vs).set j (some x)) H3 fun y H4 => ∃ acc, H4 D = some (.lst acc) ∧ acc.length < sizeLine ∧ Sofar K B L H1 (upd H4 D (.lst (acc ++ [y]))) D (i + 1) J else Sofar K B L H1 H3 D (i + 1) J := by
  obtain ⟨rl, ws, accV, acc, hJ, hlen, hDl, dA⟩ := S
  have g0 : Go K B G L Γ H1 H' σ := Go.of_rel E1 rl ws
  have ET := Env.temp E1 g0 hD hDl
  have hk0 : Same (hid (L ++ B.M) H1) (hid (D :: L ++ B.M) H') := g0.keepL E1 hD
  have EW := (ET.wipe vs).put j (dn.mono hk0)
  refine C.2 i D d' acc hi hJ hin _ H' _ EW fun b H3 g3 ⟨c1, c2⟩ => ?_
  have D3 : H3 D = some (.lst accV) := g3.kp D (List.mem_cons_self ..) _ hDl
  cases b with
  | false =>
    refine iteF ⟨fun a o w e => g3.rl a o w (rl a o w e), g3.env.ws, accV, acc, c2 rfl, by omega, D3, dA.mono g3.sm⟩
  | true =>
    refine iteT (c1 rfl _ H3 _ g3.env fun y d H4 g4 dy hJ' => ?_)
    have D4 : H4 D = some (.lst accV) := g4.kp D (List.mem_cons_self ..) _ D3
    refine ⟨accV, D4, ?_, ?_⟩
    · rw [dA.length]
      exact Nat.lt_of_le_of_lt hlen (Nat.lt_of_lt_of_le (Nat.lt_of_lt_of_le hin hn) (by decide))
    · have hs : Same (hid (D :: (L ++ B.M)) H4) (hid (D :: (L ++ B.M)) (upd H4 D (.lst (accV ++ [y])))) := fun a o e => by
        obtain ⟨q, e⟩ := hid_some e
        rw [hid_out q, upd_ne (fun z => q (by rw [z]; exact List.mem_cons_self ..))]
        exact e
      have dW : D ∉ B.Ws := fun w => by
        obtain ⟨_, _, _, q, _⟩ := E1.ws D w
        rw [hD] at q; cases q
      refine ⟨fun a o w e => ?_, fun w hw => ?_, accV ++ [y], acc ++ [d], hJ', by rw [List.length_append]; exact Nat.succ_le_succ hlen, upd_same, ?_⟩
      · rw [upd_ne (ne_of_none e hD)]
        exact g4.rl a o w (g3.rl a o w (rl a o w e))
      · obtain ⟨n, b, c, e, q⟩ := g4.env.ws w hw
        exact ⟨n, b, c, by rw [upd_ne (fun (z : w = D) => dW (by rw [← z]; exact hw))]; exact e, q⟩
      · exact ((dA.mono g3.sm).mono g4.sm |>.append (.cons dy .nil)).mono hs
theorem en_lcT {j : Nat} {vs : List Nat} {kl : List PyData → Prop} (hw : ∀ (σ : L2.St) x, L2.wipe ((L2.wipe σ vs).set j (some x)) vs = L2.wipe σ vs)
    (h : EvP K B G L Γ tl fun d => ∃ ds, d = .tuple ds ∧ ds.length ≤ 100000 ∧ ∃ J, CompOk K B G L Γ j tt te vs ds.length (fun i d' => ds[i]? = some d') J ∧ ∀ acc, J ds.length acc → kl acc) :
    EvN K B G L Γ (tLc (iTup K tl) (gName j) tt te vs) kl := fun σ H Q E q =>
  h σ H _ E fun v d H1 g1 dn ⟨ds, e, hl, J, C, hk⟩ => by
    subst e
    cases dn with
    | @tup a xs _ e1 h2 =>
      refine ⟨a, rfl, ⟨xs, Same.sqt (hid_sub _ _) e1⟩, fun D hD => lc_tup (xs := xs) (fun i H' => Sofar K B L H1 H' D i J)
        ⟨fun a o w e => same_upd hD a o e, fun w hw => ?_, [], [], C.1, Nat.le_refl _, upd_same, .nil⟩ (fun i H' _ S => ?_) (fun i x H' hi S => ?_) (fun H' S => ?_)⟩
      · obtain ⟨n, b, c, e, q⟩ := g1.env.ws w hw
        exact ⟨n, b, c, same_upd hD _ _ e, q⟩
      · have g0 : Go K B G L Γ H1 H' σ := Go.of_rel g1.env S.rl S.ws
        exact Same.sqt (hid_sub _ _) (Same.sqt g0.sm e1)
      · obtain ⟨d', e', dn'⟩ := h2.getV hi
        exact ⟨hw σ x, comp_turn g1.env hD C hl S e' (List.getElem?_eq_some_iff.mp e').1 dn'⟩
      · have g0 : Go K B G L Γ H1 H' σ := Go.of_rel g1.env S.rl S.ws
        obtain ⟨accV, acc, hJ, _, e, dA⟩ := S.it
        rw [h2.length] at hJ
        exact q D accV acc H' (g1.trans g0) (Go.fresh E g1 hD) e dA (hk acc hJ)
theorem en_lcL {j : Nat} {vs : List Nat} {kl : List PyData → Prop} (hw : ∀ (σ : L2.St) x, L2.wipe ((L2.wipe σ vs).set j (some x)) vs = L2.wipe σ vs)
    (h : EvP K B G L Γ tl fun d => ∃ ds, d = .list ds ∧ ds.length ≤ 100000 ∧ ∃ J, CompOk K B G L Γ j tt te vs ds.length (fun i d' => ds[i]? = some d') J ∧ ∀ acc, J ds.length acc → kl acc) :
    EvN K B G L Γ (tLc (iList K tl) (gName j) tt te vs) kl := fun σ H Q E q =>
  h σ H _ E fun v d H1 g1 dn ⟨ds, e, hl, J, C, hk⟩ => by
    subst e
    cases dn with
    | @lst a xs _ e1 h2 =>
      refine ⟨a, rfl, ⟨xs, .inl (.inl (hid_sub _ _ _ _ e1))⟩, fun D hD => lc_list (xs := xs) (fun i H' => Sofar K B L H1 H' D i J)
        ⟨fun a o w e => same_upd hD a o e, fun w hw => ?_, [], [], C.1, Nat.le_refl _, upd_same, .nil⟩ (fun i H' _ S => ?_) (fun i x H' hi S => ?_) (fun H' S => ?_)⟩
      · obtain ⟨n, b, c, e, q⟩ := g1.env.ws w hw
        exact ⟨n, b, c, same_upd hD _ _ e, q⟩
      · have g0 : Go K B G L Γ H1 H' σ := Go.of_rel g1.env S.rl S.ws
        exact .inl (.inl (hid_sub _ _ _ _ (g0.sm _ _ e1)))
      · obtain ⟨d', e', dn'⟩ := h2.getV hi
        exact ⟨hw σ x, comp_turn g1.env hD C hl S e' (List.getElem?_eq_some_iff.mp e').1 dn'⟩
      · have g0 : Go K B G L Γ H1 H' σ := Go.of_rel g1.env S.rl S.ws
        obtain ⟨accV, acc, hJ, _, e, dA⟩ := S.it
        rw [h2.length] at hJ
        exact q D accV acc H' (g1.trans g0) (Go.fresh E g1 hD) e dA (hk acc hJ)
theorem et_yes {kb : Bool → Prop} (h : kb true) : EvT K B G L Γ tYes kb := fun σ H Q E q => q true H (Go.refl E) h

/-! ### defs -/
/-- a def that changes nothing -/
def SpP (K : PySem.W.Frag) (pre : List PyData → Prop) (post : List PyData → PyData → Prop) : Sp := fun vs H Q _ => ∃ M ds, (∀ m ∈ M, ∃ o, H m = some o) ∧ DnA K (hid M H) vs ds ∧ pre ds ∧
  ∀ v d H', Same H H' → Dn K (hid M H') v d → post ds d → Q v H'
/-- a def that draws from the well, its first argument -/
def SpW (K : PySem.W.Frag) (pre : List PyData → Prop) (post : List PyData → PyData → Prop) : Sp := fun vs H Q _ => ∃ M w vs' ds, vs = .ref w :: vs' ∧ w ∈ M ∧ WellAt H w ∧ (∀ m ∈ M, ∃ o, H m = some o) ∧ DnA K (hid M H) vs' ds ∧ pre ds ∧
  ∀ v d H', (∀ a o, a ≠ w → H a = some o → H' a = some o) → WellAt H' w → Dn K (hid M H') v d → post ds d → Q v H'
theorem ev_callP {pre : List PyData → Prop} {post : List PyData → PyData → Prop} {E0 : XK} (h : EvA K B G L Γ tr fun ds => pre ds ∧ ∀ d, post ds d → k d) : EvP K B G L Γ (tCall (SpP K pre post) [] E0 tr) k := fun σ H Q E q =>
  h σ H _ E fun vs ds H1 g1 dn ⟨hp, hk⟩ => by
    rw [List.append_nil]
    refine ⟨L ++ B.M, ds, g1.env.alive, dn, hp, fun v d H' hs dv hpost => ?_⟩
    have g2 := Go.step g1.env (H' := H') (fun a o _ e => hs a o e) fun w hw => by
      obtain ⟨n, b, c, e, q⟩ := g1.env.ws w hw
      exact ⟨n, b, c, hs _ _ e, q⟩
    exact q v d H' (g1.trans g2) dv (hk d hpost)
theorem ev_callW {i : Nat} {w : Addr} {pre : List PyData → Prop} {post : List PyData → PyData → Prop} {E0 : XK} (hi : Γ[i]? = some (.well w)) (h : EvA K B G L Γ tr fun ds => pre ds ∧ ∀ d, post ds d → k d) : EvP K B G L Γ (tCall (SpW K pre post) [] E0 (tCons (tVar i) tr)) k := fun σ H Q E q =>
  ⟨_, E.getW hi, h σ H _ E fun vs ds H1 g1 dn ⟨hp, hk⟩ => by
    show SpW K pre post ((V.ref w :: vs) ++ []) H1 Q E0
    rw [List.append_nil]
    have hw := g1.env.we i w hi
    refine ⟨L ++ B.M, w, vs, ds, rfl, List.mem_append_right _ (g1.env.wm w hw), g1.env.ws w hw, g1.env.alive, dn, hp, fun v d H' hs hW dv hpost => ?_⟩
    have g2 := Go.step g1.env (H' := H') (fun a o wn e => hs a o (fun z => wn (by rw [z]; exact hw)) e) fun w' hw' => by
      by_cases z : w' = w
      · rw [z]; exact hW
      · obtain ⟨n, b, c, e, q⟩ := g1.env.ws w' hw'
        exact ⟨n, b, c, hs _ _ z e, q⟩
    exact q v d H' (g1.trans g2) dv (hk d hpost)⟩
def slots (N : List Str) (ds : List PyData) : List Sl := ds.map Sl.d ++ List.replicate (N.length - ds.length) .un
theorem slotok_start (K : PySem.W.Frag) (M : List Addr) (H : Hp) (r : Nat) {vs : List V} {ds : List PyData} (dn : DnA K (hid M H) vs ds) : ∀ (i : Nat) (s : Sl), (ds.map Sl.d ++ List.replicate r Sl.un)[i]? = some s → SlotOk K M H ((vs.map some ++ List.replicate r none)[i]?.join) s := fun i s hi => by
  have hl := dn.length
  by_cases h : i < ds.length
  · rw [List.getElem?_append_left (by simpa using h)] at hi
    rw [List.getElem?_append_left (by simpa [hl] using h)]
    rw [List.getElem?_map, List.getElem?_eq_getElem h] at hi
    obtain ⟨v, e, dv⟩ := dn.get (List.getElem?_eq_getElem h)
    rw [List.getElem?_map, e]
    cases hi
    exact ⟨v, rfl, dv⟩
  · rw [List.getElem?_append_right (by simpa using h), List.getElem?_replicate] at hi
    split at hi
    · cases hi
      trivial
    · cases hi
/-- from a promise to its body -/
theorem body_P {pre : List PyData → Prop} {post : List PyData → PyData → Prop} {N : List Str} {vs : List V} {Q : VK} {E : XK} (h : SpP K pre post vs H Q E)
    (hb : ∀ (B : Bs) (ds : List PyData), B.Ws = [] → pre ds → StP K B [] [] (slots N ds) t { nx := fun _ _ => post ds .none, rt := post ds }) : t { nx := fun _ H' => Q .non H', rt := Q } (L2.start N vs) H := by
  obtain ⟨M, ds, lm, dn, hp, q⟩ := h
  have E0 : Env K ⟨M, [], H⟩ [] [] H (L2.start N vs) (slots N ds) := by
    refine ⟨fun _ _ _ e => e, fun w hw => (by cases hw), fun w hw => (by cases hw), lm, fun l hl => (by cases hl), ?_, ?_, fun g hg => (by cases hg), ?_, ?_, ?_⟩
    · unfold L2.start slots
      simp [dn.length]
    · unfold L2.start slots
      rw [dn.length]
      exact slotok_start K _ H _ dn
    · intro i l xs hi
      exfalso
      unfold slots at hi
      rcases List.mem_append.mp (List.mem_of_getElem? hi) with z | z
      · obtain ⟨d, _, e⟩ := List.mem_map.mp z
        cases e
      · cases (List.eq_of_mem_replicate z)
    · intro i j l xs ys hi hj
      exfalso
      unfold slots at hi
      rcases List.mem_append.mp (List.mem_of_getElem? hi) with z | z
      · obtain ⟨d, _, e⟩ := List.mem_map.mp z
        cases e
      · cases (List.eq_of_mem_replicate z)
    · intro i w hi
      exfalso
      unfold slots at hi
      rcases List.mem_append.mp (List.mem_of_getElem? hi) with z | z
      · obtain ⟨d, _, e⟩ := List.mem_map.mp z
        cases e
      · cases (List.eq_of_mem_replicate z)
  exact hb _ ds rfl hp _ _ _ E0 ⟨fun L Γ σ H' hq E' => q _ _ H' (fun a o e => E'.fr a o (by simp) e) .non hq, fun v d H' hq o dn => q v d H' (fun a o' e => o.fr a o' (by simp) e) dn hq, fun _ _ _ _ z => z.elim, fun _ _ _ _ z => z.elim⟩
theorem body_W {pre : List PyData → Prop} {post : List PyData → PyData → Prop} {N : List Str} {vs : List V} {Q : VK} {E : XK} (h : SpW K pre post vs H Q E) (hN : N ≠ [])
    (hb : ∀ (B : Bs) (w : Addr) (ds : List PyData), pre ds → StP K B [] [] (.well w :: slots N.tail ds) t { nx := fun _ _ => post ds .none, rt := post ds }) : t { nx := fun _ H' => Q .non H', rt := Q } (L2.start N vs) H := by
  obtain ⟨M, w, vs', ds, rfl, wM, hW, lm, dn, hp, q⟩ := h
  obtain ⟨n0, N', rfl⟩ : ∃ n0 N', N = n0 :: N' := by
    cases N with
    | nil => exact absurd rfl hN
    | cons a b => exact ⟨a, b, rfl⟩
  have e0 : L2.start (n0 :: N') (.ref w :: vs') = some (.ref w) :: (vs'.map some ++ List.replicate (N'.length - vs'.length) none) := by
    unfold L2.start
    simp
  have E0 : Env K ⟨M, [w], H⟩ [] [] H (L2.start (n0 :: N') (.ref w :: vs')) (.well w :: slots N' ds) := by
    rw [e0]
    refine ⟨fun _ _ _ e => e, fun w' hw => ?_, fun w' hw => ?_, lm, fun l hl => (by cases hl), ?_, ?_, fun g hg => (by cases hg), ?_, ?_, ?_⟩
    · rw [List.mem_singleton.mp hw]; exact hW
    · rw [List.mem_singleton.mp hw]; exact wM
    · unfold slots
      simp [dn.length]
    · intro i s hi
      cases i with
      | zero =>
        cases hi
        rfl
      | succ i =>
        have hi' : (slots N' ds)[i]? = some s := by simpa using hi
        have := slotok_start K ([] ++ M) H (N'.length - ds.length) dn i s hi'
        rw [← dn.length] at this
        simpa using this
    · intro i l xs hi
      exfalso
      cases i with
      | zero => cases hi
      | succ i =>
        have hi' : (slots N' ds)[i]? = some (.own l xs) := by simpa using hi
        unfold slots at hi'
        rcases List.mem_append.mp (List.mem_of_getElem? hi') with z | z
        · obtain ⟨d, _, e⟩ := List.mem_map.mp z
          cases e
        · cases (List.eq_of_mem_replicate z)
    · intro i j l xs ys hi hj
      exfalso
      cases i with
      | zero => cases hi
      | succ i =>
        have hi' : (slots N' ds)[i]? = some (.own l xs) := by simpa using hi
        unfold slots at hi'
        rcases List.mem_append.mp (List.mem_of_getElem? hi') with z | z
        · obtain ⟨d, _, e⟩ := List.mem_map.mp z
          cases e
        · cases (List.eq_of_mem_replicate z)
    · intro i w' hi
      cases i with
      | zero =>
        cases hi
        exact List.mem_singleton.mpr rfl
      | succ i =>
        exfalso
        have hi' : (slots N' ds)[i]? = some (.well w') := by simpa using hi
        unfold slots at hi'
        rcases List.mem_append.mp (List.mem_of_getElem? hi') with z | z
        · obtain ⟨d, _, e⟩ := List.mem_map.mp z
          cases e
        · cases (List.eq_of_mem_replicate z)
  exact hb _ w ds hp _ _ _ E0 ⟨fun L Γ σ H' hq E' => q _ _ H' (fun a o ne e => E'.fr a o (fun z => ne (List.mem_singleton.mp z)) e) (E'.ws w (List.mem_singleton.mpr rfl)) .non hq,
    fun v d H' hq o dn => q v d H' (fun a o' ne e => o.fr a o' (fun z => ne (List.mem_singleton.mp z)) e) (o.ws w (List.mem_singleton.mpr rfl)) dn hq, fun _ _ _ _ z => z.elim, fun _ _ _ _ z => z.elim⟩
end
end DL
namespace PySem.HT
open PySem PySem.Spec PyProof.Rows
section
variable {prog : Program} {w : World} {A : Around} {E : Value → Shared → Prop} {s : Shared}
end
end PySem.HT
namespace DL
open PySem PySem.Spec PyProof.Rows L2
section
variable {X : Cx}
/-! ### more rules -/
theorem op_or {f : Value → Value → Sem Value} {r r' : R2} (h : OpR X f r) (h' : OpR X f r') : OpR X f (fun x y H Q => r x y H Q ∨ r' x y H Q) := fun pins s σ H x y v u Q I rx ry q => by
  rcases q with q | q
  · exact h pins s σ H x y v u Q I rx ry q
  · exact h' pins s σ H x y v u Q I rx ry q
def rAddA (K : PySem.W.Frag) : R2 := fun x y H Q => rI0 (fun i j => .int (i + j)) x y H Q ∨ (rCatA K x y H Q ∨ rCat x y H Q)
theorem op_addA : OpR X (binaryOp .Add) (rAddA X.K) := op_or op_add (op_or op_catA op_cat)
def rMulA (K : PySem.W.Frag) : R2 := fun x y H Q => rI CMul (fun i j => .int (i * j)) x y H Q ∨ (rI CMulW (fun i j => .int (i * j)) x y H Q ∨ (rRep x y H Q ∨ rRepT K x y H Q))
theorem op_mulA : OpR X (binaryOp .Mult) (rMulA X.K) := op_or op_mul (op_or op_mulW (op_or op_rep op_repT))
def rFdA : R2 := fun x y H Q => rI CDiv (fun i j => .int (i / j)) x y H Q ∨ (rI CDivW (fun i j => .int (i / j)) x y H Q ∨ rI CDivN (fun i j => .int (i.fdiv j)) x y H Q)
theorem op_fdA : OpR X (binaryOp .FloorDiv) rFdA := op_or op_fdiv (op_or op_fdivW op_fdivN)
def rModA : R2 := fun x y H Q => rI (fun _ j => 0 < j) (fun i j => .int (i % j)) x y H Q ∨ rI (fun _ j => j ≠ 0) (fun i j => .int (i.fmod j)) x y H Q
theorem op_modA : OpR X (binaryOp .Mod) rModA := op_or op_mod op_modN
def rSlX2 (K : PySem.W.Frag) : V → Option Int → Option Int → Hp → VK → Prop := fun x lo hi H Q => rSlA K x lo hi H Q ∨ rSlL K x lo hi H Q
theorem sl_any : SlR X (rSlX2 X.K) := sl_tupA.or sl_list
/-! f(k = v, ..), all parameters by name, in their order -/
def gK (us ws : List Value) : List Value := match us with
  | [] => ws
  | _ => []
def gKV (vs zs : List V) : List V := match vs with
  | [] => zs
  | _ => []
def tCallK0 (sp : Sp) (E : XK) (tk : TA) : TE := fun σ H Q => tk σ H fun zs H1 => sp zs H1 Q E
variable {x : Str} {p pos : Pos} {k : Nat} {f : Addr} {fd : FuncData} {ps ks : List Str} {sp : Sp} {CX : CXT} {E : XK} {tk : TA} {kws : List Keyword}
theorem pe_callK0 (F : FnOk X.prog X.w X.K X.mg X.base CX k f fd ps sp) (hr : Room k X.A) (hg : Gl X x) (hm : X.mg x = some (.ref f)) (hk : PySem.W.keepIn X.K (.ref f) = true) (hb : KBinds X.K fd ps ks gK gKV) (hx : Passes CX X E)
    (hkw : PK X kws tk) (hall : (backToKw pos (keywordEach kws X.env)).all (·.1.isSome) = true := by rfl) (hks : (backToKw pos (keywordEach kws X.env)).filterMap (·.1) = ks := by rfl)
    (hdb : (x == ("__debug__" : Str)) = false := by decide)
    (hpl : ((backTo pos (starEach [] X.env)).any (·.1) || (backToKw pos (keywordEach kws X.env)).any (·.1.isNone)) = false := by rfl) :
    PE X (.Call (.Name x p) [] kws pos) (tCallK0 sp E tk) := by
  refine ⟨fun pins s σ H Q I h => ?_⟩
  refine wpAny_Call_Name_kw (ld_glob I hg hm ?_ hdb)
  refine PySem.W.callWith_KW0 (h₀ := X.base) I.ok.mod.kin hk hall ?_ hpl
  refine thn (hkw.run pos pins s σ H _ I h) fun ws s2 ⟨zs, H2, I2, rz, q2⟩ => ⟨I2.kIn, ?_⟩
  rw [hks]
  exact run_fnk (us := []) (vs := []) F hr hb hx I2 .nil rz q2
end
theorem Fun.kbinds {K : PySem.W.Frag} {x qual : Str} {st : Stmt} {f : Addr} {fd : FuncData} {ps : List Str} (F : Fun K x qual st f fd) (hne : ps ≠ [])
    (h : ∀ (kV doc pm : Value) (an : Option Addr) (cdv ct : Value) (ws : List Value), ws.length = ps.length → bindArgs (PySem.W.fnOf x qual (defArgs st) (defBody st) (defScope st) .none kV doc pm an cdv ct) ⟨[], ps.zip ws⟩ = pure (ps.zip ws)) : KBinds K fd ps ps gK gKV := by
  obtain ⟨oc, od, kV, doc, pm, an, cdv, ct, osl, rfl, lk, hcd⟩ := F.ex
  refine ⟨fun s us ws _ hl => ?_, fun {vs us zs ws} r rz => ?_⟩
  · cases us with
    | nil => exact BindsTo.of_eq (h kV doc pm an cdv ct ws hl)
    | cons a b =>
      exfalso
      cases ps with
      | nil => exact hne rfl
      | cons c d => cases hl
  · cases r with
    | nil => exact rz
    | cons a b => exact .nil

section
variable {K : PySem.W.Frag} {B : Bs} {G : List Hp} {L : List Addr} {Γ : List Sl} {H H' H2 : Hp} {σ : L2.St}
variable {te ta tb tc tl : TE} {tt tu : TT} {tr : TA} {k : PyData → Prop} {x y : PyData} {P P' : PD} {t u : TS}
theorem ev_callK0 {pre : List PyData → Prop} {post : List PyData → PyData → Prop} {E0 : XK} (h : EvA K B G L Γ tr fun ds => pre ds ∧ ∀ d, post ds d → k d) : EvP K B G L Γ (tCallK0 (SpP K pre post) E0 tr) k := fun σ H Q E q =>
  h σ H _ E fun vs ds H1 g1 dn ⟨hp, hk⟩ => by
    refine ⟨L ++ B.M, ds, g1.env.alive, dn, hp, fun v d H' hs dv hpost => ?_⟩
    have g2 := Go.step g1.env (H' := H') (fun a o _ e => hs a o e) fun w hw => by
      obtain ⟨n, b, c, e, q⟩ := g1.env.ws w hw
      exact ⟨n, b, c, hs _ _ e, q⟩
    exact q v d H' (g1.trans g2) dv (hk d hpost)
theorem ROk.l {r r' : R2} (h : ROk K B G L Γ r x y k) : ROk K B G L Γ (fun x y H Q => r x y H Q ∨ r' x y H Q) x y k := fun σ H Q v u E d1 d2 q => .inl (h σ H Q v u E d1 d2 q)
theorem ROk.r {r r' : R2} (h : ROk K B G L Γ r' x y k) : ROk K B G L Γ (fun x y H Q => r x y H Q ∨ r' x y H Q) x y k := fun σ H Q v u E d1 d2 q => .inr (h σ H Q v u E d1 d2 q)
theorem ro_add {i j : Int} (hk : k (.int (i + j))) : ROk K B G L Γ (rAddA K) (.int i) (.int j) k := ROk.l (rok_i0 hk)
theorem ro_catT {ds es : List PyData} (hl : ds.length + es.length ≤ 1000000) (hk : k (.tuple (ds ++ es))) : ROk K B G L Γ (rAddA K) (.tuple ds) (.tuple es) k := ROk.r (ROk.l (rok_catT hl hk))
theorem ro_catL {ds es : List PyData} (hl : ds.length + es.length ≤ 1000000) (hk : k (.list (ds ++ es))) : ROk K B G L Γ (rAddA K) (.list ds) (.list es) k := ROk.r (ROk.r (rok_catL hl hk))
theorem ro_mul {i j : Int} (hc : CMul i j) (hk : k (.int (i * j))) : ROk K B G L Γ (rMulA K) (.int i) (.int j) k := ROk.l (rok_i hc hk)
theorem ro_mulW {i j : Int} (hc : CMulW i j) (hk : k (.int (i * j))) : ROk K B G L Γ (rMulA K) (.int i) (.int j) k := ROk.r (ROk.l (rok_i hc hk))
theorem ro_fd {i j : Int} (hc : 0 < j ∧ j < 1073741824) (hk : k (.int (i / j))) : ROk K B G L Γ rFdA (.int i) (.int j) k := ROk.l (rok_i hc hk)
theorem ro_fdW {i j : Int} (hc : CDivW i j) (hk : k (.int (i / j))) : ROk K B G L Γ rFdA (.int i) (.int j) k := ROk.r (ROk.l (rok_i hc hk))
theorem ro_mod {i j : Int} (hc : 0 < j) (hk : k (.int (i % j))) : ROk K B G L Γ rModA (.int i) (.int j) k := ROk.l (rok_i (C := fun _ j => 0 < j) hc hk)
theorem so_tup {ds : List PyData} {lo hi : Option Int} (hk : k (.tuple (cutD ds lo hi))) : SOk K B G L Γ (rSlX2 K) (.tuple ds) lo hi k := fun σ H Q v E d1 q => .inl (sok_tup hk σ H Q v E d1 q)
theorem so_lst {ds : List PyData} {lo hi : Option Int} (hk : k (.list (cutD ds lo hi))) : SOk K B G L Γ (rSlX2 K) (.list ds) lo hi k := fun σ H Q v E d1 q => .inr (sok_lst hk σ H Q v E d1 q)
/-- divmod, its pair unpacked into a place of the well and a name: not general -/
theorem ev_dict (hk : k (.dict [])) : EvP K B G L Γ (fun (_ : L2.St) H Q => ∀ d, H d = none → Q (.ref d) (upd H d (.dK []))) k := fun σ H Q E q d hd => by
  have g := Go.new (o := .dK []) E hd
  exact q _ _ _ g (.emp (hid_new (E.newM hd))) hk
/-- a test by None -/
def isNoneD : PyData → Bool
  | .none => true
  | _ => false
theorem ev_isN (h : EvP K B G L Γ te fun d => k (.bool (isNoneD d))) : EvP K B G L Γ (tIsN te) k := fun σ H Q E q =>
  h σ H _ E fun v d H1 g1 dn hk => by
    have e : decide (v = V.non) = isNoneD d := by cases dn <;> simp [isNoneD]
    show Q (.bl (decide (v = V.non))) H1
    rw [e]
    exact q _ _ H1 g1 (.bl _) hk
/-- the truth of data -/
def truD : PyData → Bool
  | .none => false
  | .bool b => b
  | .int i => i != 0
  | .str s => s.length != 0
  | .list ds => !ds.isEmpty
  | .tuple ds => !ds.isEmpty
  | .dict ds => !ds.isEmpty
end
end DL
namespace DL
open PySem PySem.Spec PyProof.Rows L2
/-! ### names for the built-ins' readings -/
def rAbsQ : List V → Hp → VK → Prop := fun xs H Q => ∃ i, xs = [.int i] ∧ Q (.int (if i < 0 then -i else i)) H
def rIntQ : List V → Hp → VK → Prop := fun xs H Q => (∃ i, xs = [.int i] ∧ Q (.int i) H) ∨ ∃ k, xs = [.bl k] ∧ Q (.int (if k then 1 else 0)) H
def rListQ (K : PySem.W.Frag) : List V → Hp → VK → Prop := fun xs H Q => ∃ p ys, xs = [.ref p] ∧ (SqL K H p ys ∨ SqT K H p ys) ∧ ∀ l, H l = none → Q (.ref l) (upd H l (.lst ys))
def rTupleQ (K : PySem.W.Frag) : List V → Hp → VK → Prop := fun xs H Q => ∃ p ys, xs = [.ref p] ∧ ((SqL K H p ys ∧ ∀ l, H l = none → Q (.ref l) (upd H l (.tup ys))) ∨ (SqT K H p ys ∧ Q (.ref p) H))
def rDivmodQ : List V → Hp → VK → Prop := fun xs H Q => ∃ i j, xs = [.int i, .int j] ∧ CDivP i j ∧ ∀ p, H p = none → Q (.ref p) (upd H p (.tup [.int (i / j), .int (i % j)]))
def tTru (K : PySem.W.Frag) (te : TE) : TT := fun σ H Q => te σ H fun x H' => ∃ k, TruV K x H' k ∧ Q k H'
section
variable {K : PySem.W.Frag} {B : Bs} {G : List Hp} {L : List Addr} {Γ : List Sl} {H H' H2 : Hp} {σ : L2.St}
variable {te ta tb tc tl : TE} {tt tu : TT} {tr : TA} {k : PyData → Prop} {x y : PyData} {P P' : PD} {t u : TS}
theorem co_lenT {ds : List PyData} (hk : k (.int ds.length)) : COk K B G L Γ (rLenQ K) [.tuple ds] k := cok_lenT hk
theorem co_lenL {ds : List PyData} (hk : k (.int ds.length)) : COk K B G L Γ (rLenQ K) [.list ds] k := cok_lenL hk
theorem co_abs {i : Int} (hk : k (.int (if i < 0 then -i else i))) : COk K B G L Γ rAbsQ [.int i] k := cok_abs hk
theorem co_int {i : Int} (hk : k (.int i)) : COk K B G L Γ rIntQ [.int i] k := cok_intI hk
theorem co_tupL {ds : List PyData} (hk : k (.tuple ds)) : COk K B G L Γ (rTupleQ K) [.list ds] k := cok_tupL hk
theorem ev_tupOwn {i : Nat} {l : Addr} {xs : List PyData} (hi : Γ[i]? = some (.own l xs)) (hk : k (.tuple xs)) : EvP K B G L Γ (tCB (rTupleQ K) (tCons (tVar i) tNil)) k := ev_tupO hi hk
theorem ev_lenOwn {i : Nat} {l : Addr} {xs : List PyData} (hi : Γ[i]? = some (.own l xs)) (hk : k (.int xs.length)) : EvP K B G L Γ (tCB (rLenQ K) (tCons (tVar i) tNil)) k := ev_lenO hi hk
theorem ev_ixOwn {i : Nat} {l : Addr} {xs : List PyData} (hi : Γ[i]? = some (.own l xs)) (h : EvP K B G L Γ tb fun n => ∃ j d, n = .int j ∧ atI xs j = some d ∧ k d) : EvP K B G L Γ (tOp (rIx K) (tVar i) tb) k := fun σ H Q E q => by
  obtain ⟨v, e, h2⟩ := ev_ixO hi h σ H Q E q
  refine ⟨v, e, ?_⟩
  obtain ⟨e', ws, hl, _⟩ := E.getO hi
  exact h σ H _ E fun u n H2 g2 dn2 ⟨j, d, en, ed, hk⟩ => by
    subst en
    obtain ⟨e3, ws, hl2, dn3⟩ := g2.env.getO hi
    obtain ⟨w, e2, dn4⟩ := dna_at dn3 ed
    rw [e] at e3
    have : v = .ref l := Option.some.inj (Option.some.inj e3)
    exact .inl ⟨l, ws, j, w, this, dn_int dn2, .inl (.inl hl2), e2, q _ _ H2 g2 dn4 hk⟩
theorem en_listQ {kl : List PyData → Prop} (h : EvP K B G L Γ te fun d => ∃ ds, (d = .tuple ds ∨ d = .list ds) ∧ kl ds) : EvN K B G L Γ (tCB (rListQ K) (tCons te tNil)) kl := en_list h
/-- an item of the well -/
theorem ev_well {i : Nat} {w : Addr} (hi : Γ[i]? = some (.well w)) (h : EvP K B G L Γ tb fun n => ∃ j, n = .int j ∧ (j = 0 ∨ j = 1 ∨ j = 2) ∧ ∀ n : Int, (j = 0 → 0 ≤ n) → (j = 1 → 0 ≤ n ∧ n < 1099511627776) → k (.int n)) : EvP K B G L Γ (tOp (rIx K) (tVar i) tb) k := fun σ H Q E q =>
  ⟨_, E.getW hi, h σ H _ E fun u n H2 g2 dn2 ⟨j, en, hj, hk⟩ => by
    subst en
    obtain ⟨a, b, c, e, h0, h1, h2⟩ := g2.env.ws w (g2.env.we i w hi)
    have z : u = .int j := dn_int dn2
    rcases hj with rfl | rfl | rfl
    · exact .inl ⟨w, _, 0, .int a, rfl, z, .inl (.inl e), rfl, q _ _ H2 g2 (.int a) (hk a (fun _ => h0) (by omega))⟩
    · exact .inl ⟨w, _, 1, .int b, rfl, z, .inl (.inl e), rfl, q _ _ H2 g2 (.int b) (hk b (by omega) (fun _ => ⟨h1, h2⟩))⟩
    · exact .inl ⟨w, _, 2, .int c, rfl, z, .inl (.inl e), rfl, q _ _ H2 g2 (.int c) (hk c (by omega) (by omega))⟩⟩
/-- the well changed in one place -/
theorem Env.stir {w : Addr} {vs : List V} (E : Env K B G L H σ Γ) (hw : w ∈ B.Ws) (h : WellAt (upd H w (.lst vs)) w) : Env K B G L (upd H w (.lst vs)) σ Γ := by
  refine (E.step (fun a o wn e => ?_) fun w' hw' => ?_).1
  · rw [upd_ne (fun (z : a = w) => wn (by rw [z]; exact hw))]
    exact e
  · by_cases z : w' = w
    · rw [z]; exact h
    · obtain ⟨n, b, c, e, q⟩ := E.ws w' hw'
      exact ⟨n, b, c, by rw [upd_ne z]; exact e, q⟩
/-- well[j] = e -/
theorem st_setWell {i : Nat} {w : Addr} (hi : Γ[i]? = some (.well w)) (h : EvP K B G L Γ te fun d => EvP K B G L Γ tb fun n => ∃ z j : Int, d = .int z ∧ n = .int j ∧ (j = 0 ∨ j = 1 ∨ j = 2) ∧ (j = 0 → 0 ≤ z) ∧ (j = 1 → 0 ≤ z ∧ z < 1099511627776) ∧ P.nx L Γ) :
    StP K B G L Γ (tAsg te (gSub (tVar i) tb rSetL)) P := fun σ H D E M =>
  h σ H _ E fun v d H1 g1 dn1 h2 => ⟨_, g1.env.getW hi, h2 σ H1 _ g1.env fun u n H2 g2 dn2 ⟨z, j, ed, en, hj, hz0, hz1, hk⟩ => by
    subst ed en
    have ev : v = .int z := dn_int dn1
    have eu : u = .int j := dn_int dn2
    have hw := g2.env.we i w hi
    obtain ⟨a, b, c, e, h0, h1, h2⟩ := g2.env.ws w hw
    rcases hj with rfl | rfl | rfl
    · refine ⟨w, _, 0, 0, rfl, eu, e, rfl, M.nx _ _ _ _ hk (g2.env.stir hw ?_)⟩
      subst ev
      exact ⟨z, b, c, upd_same, hz0 rfl, h1, h2⟩
    · refine ⟨w, _, 1, 1, rfl, eu, e, rfl, M.nx _ _ _ _ hk (g2.env.stir hw ?_)⟩
      subst ev
      exact ⟨a, z, c, upd_same, h0, (hz1 rfl).1, (hz1 rfl).2⟩
    · refine ⟨w, _, 2, 2, rfl, eu, e, rfl, M.nx _ _ _ _ hk (g2.env.stir hw ?_)⟩
      subst ev
      exact ⟨a, b, z, upd_same, h0, h1, h2⟩⟩
/-- well[0], x = divmod(well[0], m) -/
theorem st_dmWell {i n : Nat} {w : Addr} (hi : Γ[i]? = some (.well w)) (h : EvA K B G L Γ tr fun ds => ∃ z m : Int, ds = [.int z, .int m] ∧ 0 ≤ z ∧ 0 < m ∧ m < 1073741824 ∧ P.nx L (Γ.set n (.d (.int (z % m))))) :
    StP K B G L Γ (tAsg (tCB rDivmodQ tr) (gTup K 2 (gCons (gSub (tVar i) (tC (.int 0)) rSetL) (gCons (gName n) gNil)))) P := fun σ H D E M =>
  h σ H _ E fun vs ds H1 g1 dn ⟨z, m, e, hz, hm, hm2, hk⟩ => by
    subst e
    cases dn with
    | cons d1 d2 =>
      cases d2 with
      | cons d2 d3 =>
        cases d3
        cases d1
        cases d2
        refine ⟨z, m, rfl, ⟨hm, PyProof.noPylong_small (by omega)⟩, fun p hp => ?_⟩
        have g2 := Go.new (o := .tup [.int (z / m), .int (z % m)]) g1.env hp
        have hw := g2.env.we i w hi
        obtain ⟨a, b, c, e, h0, h1, h2⟩ := g2.env.ws w hw
        refine ⟨p, _, rfl, .inl (.inl upd_same), rfl, _, _, rfl, ⟨_, g2.env.getW hi, w, _, 0, 0, rfl, rfl, e, rfl, _, _, rfl, rfl, ?_⟩⟩
        refine M.nx _ _ _ _ hk ((g2.env.stir hw ⟨z / m, b, c, upd_same, Int.ediv_nonneg hz (Int.le_of_lt hm), h1, h2⟩).put n (.int _))
/-- a test of data by its truth -/
theorem et_tru {kb : Bool → Prop} (h : EvP K B G L Γ te fun d => (match d with | .str s => s.length ≤ 1000000 | _ => True) ∧ kb (truD d)) : EvT K B G L Γ (tTru K te) kb := fun σ H Q E q =>
  h σ H _ E fun v d H1 g1 dn ⟨hs, hk⟩ => by
    refine ⟨truD d, ?_, q _ H1 g1 hk⟩
    cases dn with
    | non => rfl
    | bl b => rfl
    | int i => rfl
    | str x =>
      refine ⟨sz_ok hs, ?_⟩
      show (x.length != 0) = ((x.length : Int) != 0)
      rcases Nat.eq_zero_or_pos x.length with h | h
      · rw [h]; rfl
      · have a : (x.length != 0) = true := by simp; omega
        have b : ((x.length : Int) != 0) = true := by simp; omega
        rw [a, b]
    | @lst a xs ds e h2 =>
      refine .inl ⟨xs, .inl (.inl (hid_sub _ _ _ _ e)), ?_⟩
      have := h2.length
      cases xs <;> cases ds <;> simp_all [truD]
    | @tup a xs ds e h2 =>
      refine .inr (.inl ⟨xs, Same.sqt (hid_sub _ _) e, ?_⟩)
      have := h2.length
      cases xs <;> cases ds <;> simp_all [truD]
    | emp e => exact .inr (.inr ⟨[], hid_sub _ _ _ _ e, rfl⟩)
/-- a < b < c -/
theorem ev_chain {r r' : R2} (h : EvP K B G L Γ ta fun x => EvP K B G L Γ tb fun y => ROk K B G L Γ r x y fun z => ∃ b, z = .bool b ∧ (b = true → EvP K B G L Γ tc fun w => ROk K B G L Γ r' y w k) ∧ (b = false → k (.bool false))) : EvP K B G L Γ (tChain r r' ta tb tc) k := fun σ H Q E q =>
  h σ H _ E fun v x H1 g1 dn1 h1 => h1 σ H1 _ g1.env fun u y H2 g2 dn2 h2 => h2 σ H2 _ v u g2.env (dn1.mono g2.sm) dn2 fun z d H3 g3 dn3 ⟨b, e, c1, c2⟩ => by
    subst e
    refine ⟨b, dn_bool dn3, ?_⟩
    cases b with
    | true => exact iteT (c1 rfl σ H3 _ g3.env fun w' d4 H4 g4 dn4 h4 => h4 σ H4 Q u w' g4.env ((dn2.mono g3.sm).mono g4.sm) dn4 fun z d H5 g5 dn5 hk => q z d H5 ((((g1.trans g2).trans g3).trans g4).trans g5) dn5 hk)
    | false => exact iteF (q _ _ H3 ((g1.trans g2).trans g3) (.bl false) (c2 rfl))
theorem ev_dictD (hk : k (.dict [])) : EvP K B G L Γ tDNewK k := ev_dict hk
end
end DL
namespace DL
open PySem PySem.Spec PyProof.Rows L2
theorem len_P {K : PySem.W.Frag} {pre : List PyData → Prop} {post : List PyData → PyData → Prop} {vs : List V} {H : Hp} {Q : VK} {E : XK} (h : SpP K pre post vs H Q E) {n : Nat} (hn : ∀ ds, pre ds → ds.length = n) : vs.length = n := by
  obtain ⟨M, ds, _, dn, hp, _⟩ := h
  rw [dn.length, hn ds hp]
theorem len_W {K : PySem.W.Frag} {pre : List PyData → Prop} {post : List PyData → PyData → Prop} {vs : List V} {H : Hp} {Q : VK} {E : XK} (h : SpW K pre post vs H Q E) {n : Nat} (hn : ∀ ds, pre ds → ds.length = n) : vs.length = n + 1 := by
  obtain ⟨M, w, vs', ds, rfl, _, _, _, dn, hp, _⟩ := h
  rw [List.length_cons, dn.length, hn ds hp]
theorem wipe1 (i : Nat) : ∀ (σ : L2.St) (x : V), L2.wipe ((L2.wipe σ [i]).set i (some x)) [i] = L2.wipe σ [i] := fun σ x => by
  show (((σ.set i none).set i (some x)).set i none) = σ.set i none
  rw [List.set_set, List.set_set]
end DL
namespace DL
open PySem PySem.Spec PyProof.Rows L2
def isIntT : PyData → Bool
  | .int _ => true
  | .bool _ => true
  | _ => false
def isBoolT : PyData → Bool
  | .bool _ => true
  | _ => false
def isTupT : PyData → Bool
  | .tuple _ => true
  | _ => false
theorem kit_int (d : PyData) : kitB (tyD d) "int" = some (isIntT d) := by
  cases d <;> (simp only [tyD, isIntT]; decide +kernel)
theorem kit_bool (d : PyData) : kitB (tyD d) "bool" = some (isBoolT d) := by
  cases d <;> (simp only [tyD, isBoolT]; decide +kernel)
theorem kit_tup (d : PyData) : kitB (tyD d) "tuple" = some (isTupT d) := by
  cases d <;> (simp only [tyD, isTupT]; decide +kernel)
section
variable {K : PySem.W.Frag} {B : Bs} {G : List Hp} {L : List Addr} {Γ : List Sl} {te : TE} {k : PyData → Prop}
theorem ev_isiInt (h : EvP K B G L Γ te fun d => k (.bool (isIntT d))) : EvP K B G L Γ (tCB (rIsi K) (tCons te (tCons (tC (.ty "int")) tNil))) k := ev_isi (h.mono fun d hk => ⟨_, kit_int d, hk⟩)
theorem ev_isiBool (h : EvP K B G L Γ te fun d => k (.bool (isBoolT d))) : EvP K B G L Γ (tCB (rIsi K) (tCons te (tCons (tC (.ty "bool")) tNil))) k := ev_isi (h.mono fun d hk => ⟨_, kit_bool d, hk⟩)
theorem ev_isiTup (h : EvP K B G L Γ te fun d => k (.bool (isTupT d))) : EvP K B G L Γ (tCB (rIsi K) (tCons te (tCons (tC (.ty "tuple")) tNil))) k := ev_isi (h.mono fun d hk => ⟨_, kit_tup d, hk⟩)
theorem isTupT_true {d : PyData} (h : isTupT d = true) : ∃ xs, d = .tuple xs := by
  cases d <;> simp [isTupT] at h
  exact ⟨_, rfl⟩
end
end DL
namespace DL
open PySem PySem.Spec PyProof.Rows L2
section
variable {K : PySem.W.Frag} {B : Bs} {G : List Hp} {L : List Addr} {Γ : List Sl} {te : TE} {P : PD}
end
end DL

namespace DL
open PySem
theorem sz_and {n : Nat} {p : Prop} (h : n ≤ 1000000) (hp : p) : n ≤ 1000000 ∧ p := ⟨h, hp⟩
end DL

namespace DL
open PySem L2
section
variable {K : PySem.W.Frag} {B : Bs} {G : List Hp} {L : List Addr} {Γ : List Sl} {k : PyData → Prop}
theorem ro_mulL {i j : Int} (h0 : -18446744073709551616 < i) (h1 : i < 18446744073709551616) (hk : k (.int (i * j))) : ROk K B G L Γ (rMulA K) (.int i) (.int j) k := ro_mul (Or.inl ⟨h0, h1⟩) hk
end
end DL
/-! enumerate over a tuple -/
namespace PySem
open Sem (wp)
open AutoSeq1 (wpAny_loadPart')
namespace EnT
theorem draws_tuple {prog : Program} {w : World} {A : Around} (hh : A.handled = none) (it t : Addr) (hne : t ≠ it) (items : Array Value) :
    Draws prog w A it [it, t] items.size (fun i v => items[i]? = some v) (fun i h => h.IsTupleIter it t i ∧ h.IsTuple t items) where
  live := fun _ _ st => let ⟨o, ho, _⟩ := st.1; ⟨o, ho⟩
  frame := fun _ _ _ st hk => ⟨st.1.at fun o e => hk it (by simp) o e, let ⟨o, ho, r⟩ := st.2; ⟨o, hk t (by simp) o ho, r⟩⟩
  item := fun i s Q E hi st hQ => by
    refine wpAny_nextOf_tuple_item st.1 st.2 (x := items[i]) (by simp [hi]) fun h' hit' hs' => ?_
    exact hQ _ h' s.toks (by simp [hi]) ⟨hit', let ⟨o, ho, r⟩ := st.2; ⟨o, hs'.extBut t o hne ho, r⟩⟩ hs'
  done := fun s Q E st hE => wpAny_nextOf_tuple_end hh st.1 st.2 (by simp) hE
theorem meets_new (l : Addr) (items : Array Value) :
    Meets (Builtin.«enumerate.__new__» ⟨[.type "enumerate", .ref l], []⟩) (fun _ R s => s.heap.IsTuple l items ∧
      R (.ok (.ret (.ref (s.heap.push { cls := .type "tuple_iterator", data := .fields #[.ref l, .int 0 0] }).objs.size)))
        { s with heap := (s.heap.push { cls := .type "tuple_iterator", data := .fields #[.ref l, .int 0 0] }).push { cls := .type "enumerate", data := .fields #[.none, .bool false, .ref s.heap.objs.size, rawInt 0, .none, .none] } }) :=
  .of_wp fun prog w A R s h => by
    obtain ⟨hp, g, d, tk, os⟩ := s; obtain ⟨hL, h⟩ := h
    have hsub := sub_enumerate
    wp_walk
    refine wpAny_stack_any fun st => wpAny_pure ?_
    split
    · rename_i c _ _ _ _ _
      cases (c == Value.type "enumerate")
      · wp_walk using wpAny_pyIter_tuple hL
        exact ⟨_, rfl, h⟩
      · wp_walk using wpAny_pyIter_tuple hL
        exact ⟨_, rfl, h⟩
    · wp_walk using wpAny_pyIter_tuple hL
      exact ⟨_, rfl, h⟩
section
variable {prog : Program} {w : World} {A : Around} {E : Value → Shared → Prop} {s : Shared}
theorem call_enum {l : Addr} {items : Array Value} {Q : Value → Shared → Prop} (hL : s.heap.IsTuple l items)
    (h : ∀ h', IsEnum h' (s.heap.objs.size + 1) s.heap.objs.size 0 .none → h'.IsTupleIter s.heap.objs.size l 0 → h'.objs.size = s.heap.objs.size + 2 →
      (∀ b o, s.heap.get? b = some o → h'.get? b = some o) → Q (.ref (s.heap.objs.size + 1)) { s with heap := h' }) :
    wpAny (model prog w) A (call (.type "enumerate") [.ref l]) Q E s := by
  refine callType_new F.called_enumerate (by decide) (F.typeCall_enumerate_1 _) (F.newCall_enumerate_1 _) (fun obj => F.args_object_init_2 obj _) F.entry_enumerate_new
    (meets_new l items) ⟨hL, ?_⟩
  have hz : (s.heap.push { cls := .type "tuple_iterator", data := .fields #[.ref l, .int 0 0] }).objs.size = s.heap.objs.size + 1 := Heap.size_push ..
  show _ ∧ _
  rw [hz]
  have he : IsEnum ((s.heap.push { cls := .type "tuple_iterator", data := .fields #[.ref l, .int 0 0] }).push
      { cls := .type "enumerate", data := .fields #[.none, .bool false, .ref s.heap.objs.size, rawInt 0, .none, .none] }) (s.heap.objs.size + 1) s.heap.objs.size 0 .none := by
    have := Heap.get?_push_size (s.heap.push { cls := .type "tuple_iterator", data := .fields #[.ref l, .int 0 0] })
      (o := { cls := .type "enumerate", data := .fields #[.none, .bool false, .ref s.heap.objs.size, rawInt 0, .none, .none] }) rfl
    rw [hz] at this; exact this
  refine ⟨⟨_, he, rfl⟩, h _ he ⟨_, Heap.get?_push_of_some _ (Heap.get?_push_size _ rfl), rfl, rfl⟩ (by rw [Heap.size_push, hz]) fun b o x => Heap.get?_push_of_some _ (Heap.get?_push_of_some _ x)⟩
theorem next_end {e it l : Addr} {i : Nat} {j : Int} {items : Array Value} {old : Value} {Q : Option Value → Shared → Prop} (hh : A.handled = none)
    (he : IsEnum s.heap e it j old) (hit : s.heap.IsTupleIter it l i) (hl : s.heap.IsTuple l items) (hx : items[i]? = none)
    (hQ : ∀ h', Heap.ExtBut it s.heap h' → Q none { s with heap := h' }) : wpAny (model prog w) A (pyNext (.ref e)) Q E s := by
  have hT : s.TypeIs (.ref e) "enumerate" := ⟨_, he, rfl⟩
  unfold pyNext
  refine wpAny_bind (wpAny_attempt (wpAny_callSpecial?_slot (name := Str.ofString "__next__") hT F.slot_enumerate_next
    (wpAny_call_entry F.slot_enumerate_next hT F.entry_enumerate_next ?_ (F.args_enumerate_next_1 _))))
  show wpAny _ _ (field (.ref e) 2 >>= _) _ _ _
  refine wpAny_bind (wpAny_field he rfl (x := .ref it) rfl ?_)
  refine wpAny_bind (wpAny_nextOf_tuple_end hh hit hl hx fun h' x he' hx' => ?_)
  obtain ⟨o, ho, hc⟩ := hx'
  refine wpAny_bind (wpAny_isInstance (T := "StopIteration") (b := true) ⟨o, ho, hc⟩ isSubtype_stop ?_)
  exact wpAny_pure (hQ _ he')
end
end EnT
end PySem
namespace DL
open PySem PySem.Spec PyProof.Rows L2
/-- the tuple at a, each item in a new pair with its place -/
def IteT (K : PySem.W.Frag) (a : Addr) : It :=
  ⟨fun i H => ∃ (xs : List V) (x : V), SqT K H a xs ∧ xs[i]? = some x, fun i H v H' => ∃ T x, v = .ref T ∧ H T = none ∧ H' = upd H T (.tup [.int (i : Nat), x]) ∧ ∀ xs, SqT K H a xs → xs[i]? = some x, fun i H => ∃ xs : List V, SqT K H a xs ∧ xs.length ≤ i⟩
theorem turn_enumT {P : Program} {w : World} {K : PySem.W.Frag} {elts : List Expr} {kk : Nat} {tpos : Pos} (a e it : Addr) (ha : a ≠ it) (hae : a ≠ e) :
    Turn P w K (.Tuple elts kk tpos) (IteT K a) [e, it] e (fun i h => (∃ old, IsEnum h e it ((i : Nat) : Int) old) ∧ h.IsTupleIter it a i ∧ e ≠ it) where
  mem := by simp
  obj := fun i h st b hb => by
    obtain ⟨⟨old, he⟩, ⟨o, ho, hc, hd⟩, _⟩ := st
    have e' : b = e ∨ b = it := by simpa using hb
    rcases e' with z | z
    · rw [z]; exact ⟨_, he, fun v q => nomatch q⟩
    · rw [z]; exact ⟨o, ho, fun v q => by rw [hd] at q; cases q⟩
  keep := fun i h h' st k => let ⟨⟨old, he⟩, hi, hne⟩ := st; ⟨⟨old, k e (by simp) _ he⟩, hi.at fun o q => k it (by simp) o q, hne⟩
  item := by
    intro X hP hw hK hc i pins s σ H E I hf st hg
    subst hP hw hK
    obtain ⟨⟨old, he⟩, hit, hne⟩ := st
    obtain ⟨xs, x, hq, hx⟩ := hg
    obtain ⟨its, rv, p, hz⟩ := I.tuple hq
    obtain ⟨u, hu, ru⟩ := rv.get hx
    have hel : e < s.heap.objs.size := Heap.lt_size he
    have hil : it < s.heap.objs.size := by obtain ⟨_, q, _⟩ := hit; exact Heap.lt_size q
    have hT0 : s.heap.IsTuple a its.toArray := p
    have D := PySem.EnT.draws_tuple (prog := X.prog) (w := X.w) (A := X.A.in1) (I.ok.hd hc) it a ha its.toArray
    have hi' : i < its.toArray.size := by
      have := (List.getElem?_eq_some_iff.mp hu).1
      rw [List.size_toArray]; exact this
    refine wpAny_pyNext_enum_itemD D he ⟨hit, hT0⟩ hi' hne (by simp [hne, Ne.symm hae]) fun y h' tk hy ho hit' hT hsz hk => ?_
    have ey : y = u := by
      have : (its.toArray)[i]? = some u := by simpa using hu
      rw [this] at hy
      exact (Option.some.inj hy).symm
    subst ey
    refine ⟨_, rfl, wpAny_letOwnedTupleGo_enum (s := { s with heap := h', toks := tk + 1 }) ho fun h'' he' sb => ?_⟩
    have hT2 : h''.get? s.heap.objs.size = some { cls := .type "tuple", data := .seq #[.int i tk, y] } := (sb.2 _ (Nat.ne_of_gt hel)).trans hT
    have new : ObjOk X.prog X.w (upd H s.heap.objs.size (.tup [.int (i : Nat), x])) h'' s.heap.objs.size (.tup [.int (i : Nat), x]) :=
      ⟨by show 2 ≤ sizeLine; decide, [.int i tk, y], .cons ⟨_, rfl⟩ (.cons ru .nil), ⟨_, hT2, rfl, _, rfl⟩⟩
    have I1 : Inv X pins σ (upd H s.heap.objs.size (.tup [.int (i : Nat), x])) { s with heap := h'', toks := tk + 1 } :=
      I.turnedNew (ch := [e, it]) (fun b ob hb q => (sb.2 b (fun z => hb (by simp [z]))).trans (hk b ob (fun z => hb (by simp [z])) (fun z => hb (by simp [z])) q)) hf (Nat.le_refl _) new
    refine ⟨.ref s.heap.objs.size, _, I1, rfl, ⟨_, x, rfl, I.hok.fresh (Nat.le_refl _), rfl, fun ys hy => by rw [I.tuple_inj hy hq]; exact hx⟩, ⟨⟨y, ?_⟩, hit'.1.at fun o q => (sb.2 it (Ne.symm hne)).trans q, hne⟩, fun b hb => ?_⟩
    · have e1 : ((i + 1 : Nat) : Int) = (i : Int) + 1 := by omega
      rw [e1]; exact he'
    · have hb' : b < s.heap.objs.size := by
        have e' : b = e ∨ b = it := by simpa using hb
        rcases e' with z | z
        · rw [z]; exact hel
        · rw [z]; exact hil
      rw [upd_ne (Nat.ne_of_lt hb')]
      exact (hf b hb).1
  done := by
    intro X hP hw hK hc i pins s σ H E I hf st hg
    subst hP hw hK
    obtain ⟨⟨old, he⟩, hit, hne⟩ := st
    obtain ⟨xs, hq, hx⟩ := hg
    obtain ⟨its, rv, p, hz⟩ := I.tuple hq
    obtain ⟨f0, f1, f2, f3, f4, f5⟩ := hf it (by simp)
    have hl := rv.length
    have hT0 : s.heap.IsTuple a its.toArray := p
    exact PySem.EnT.next_end (I.ok.hd hc) he hit hT0 (by simp; omega) fun h' eb => ⟨rfl, I.turned (t' := s.toks) (fun b o hb q => eb b o hb q) f0 f1 f3 f4 f5⟩
  self := fun A i s Q E st h => let ⟨⟨_, he⟩, _⟩ := st; wpAny_pyIter_enum he h

def iEnumT (K : PySem.W.Frag) (ta : TA) : TI := fun σ H R => ta σ H fun vs H1 => ∃ a xs, vs = [.ref a] ∧ SqT K H1 a xs ∧ R (IteT K a) H1
theorem pi_enumT {X : Cx} {e : Expr} {ta : TA} {p pos tpos : Pos} {elts : List Expr} {kk : Nat} (hg : Gl X "enumerate") (hm : X.mg "enumerate" = none) (ha : PA X [e] ta) (hs : starEach [e] X.env = [(false, eval e X.env)] := by rfl) :
    PI X (.Tuple elts kk tpos) (.Call (.Name "enumerate" p) [e] [] pos) (iEnumT X.K ta) := by
  refine ⟨fun pins s σ H R I h => ?_⟩
  refine Call_ (ld_blt I hg hm boot_enumerate (PyProof.Rows.callWith_type1 (thn (ha.run pos pins s σ H _ I h) fun us s1 ⟨vs, H1, I1, r1, q1⟩ => ?_) hs rfl))
  obtain ⟨a, xs, ex, hq, q⟩ := q1
  subst ex
  cases r1 with
  | cons r rr =>
    cases rr
    cases r
    obtain ⟨its, rv, p', hz⟩ := I1.tuple hq
    have hal : a < s1.heap.objs.size := by
      obtain ⟨o, ho, _⟩ := p'
      exact Heap.lt_size ho
    refine PySem.EnT.call_enum (show s1.heap.IsTuple a its.toArray from p') fun h' he hit hsz hk => wpAny_pyIter_enum he ?_
    have I2 : Inv X pins σ H1 { s1 with heap := h' } := I1.kept (t' := s1.toks) hk
    refine ⟨s1.heap.objs.size + 1, [s1.heap.objs.size + 1, s1.heap.objs.size], _, _, H1, rfl, I2, turn_enumT a (s1.heap.objs.size + 1) s1.heap.objs.size (Nat.ne_of_lt hal) (Nat.ne_of_lt (Nat.lt_succ_of_lt hal)), ⟨⟨.none, he⟩, hit, Nat.succ_ne_self _⟩, fun b hb => ?_, q⟩
    have e' : b = s1.heap.objs.size + 1 ∨ b = s1.heap.objs.size := by simpa using hb
    have hle : s1.heap.objs.size ≤ b := by
      rcases e' with z | z
      · rw [z]; exact Nat.le_add_right _ _
      · rw [z]; exact Nat.le_refl _
    exact I1.fpOk hle (I1.hok.fresh hle)
section
variable {K : PySem.W.Frag} {B : Bs} {G : List Hp} {L : List Addr} {Γ : List Sl} {H : Hp} {σ : L2.St} {ta : TA} {P : PD} {t : TS}
theorem for_enumT {a : Addr} {xs : List V} {g : TG} {tb : TS} {D : Ends} {σ : L2.St} {H : Hp} (Pv : Nat → L2.St → Hp → Prop) (h0 : Pv 0 σ H) (hl : ∀ i σ H, i ≤ xs.length → Pv i σ H → SqT K H a xs)
    (hs : ∀ i x T σ H, xs[i]? = some x → Pv i σ H → H T = none → g (.ref T) σ (upd H T (.tup [.int (i : Nat), x])) fun σ2 H2 => tb { D with nx := Pv (i + 1), ct := Pv (i + 1), bk := D.nx } σ2 H2) (hd : ∀ σ H, Pv xs.length σ H → D.nx σ H) :
    ∃ W : Nat → Nat → L2.St → Hp → Prop, (∃ m, W 0 m σ H) ∧ ∀ i m σ H, W i m σ H →
      ((IteT K a).stop i H ∧ D.nx σ H) ∨ ((IteT K a).go i H ∧ ∃ N : L2.St → Hp → Prop, (∀ σ' H', N σ' H' → ∃ m', m' < m ∧ W (i + 1) m' σ' H') ∧ ∀ x H', (IteT K a).yld i H x H' → g x σ H' fun σ2 H2 => tb { D with nx := N, ct := N, bk := D.nx } σ2 H2) := by
  refine ⟨fun i m σ H => m = xs.length - i ∧ i ≤ xs.length ∧ Pv i σ H, ⟨xs.length, by simp, Nat.zero_le _, h0⟩, ?_⟩
  rintro i m σ H ⟨rfl, hi, p⟩
  have q := hl i σ H hi p
  by_cases hlt : i < xs.length
  · refine .inr ⟨⟨xs, xs[i], q, by simp [hlt]⟩, Pv (i + 1), fun σ' H' p' => ⟨xs.length - (i + 1), by omega, rfl, hlt, p'⟩, fun v H' y => ?_⟩
    obtain ⟨T, x, rfl, hT, rfl, hx⟩ := y
    exact hs i x T σ H (hx xs q) p hT
  · have e : i = xs.length := by omega
    subst e
    exact .inl ⟨⟨xs, q, Nat.le_refl _⟩, hd σ H p⟩
/-- for i, x in enumerate(a tuple) -/
theorem st_forE {j1 j2 : Nat} (h : EvA K B G L Γ ta fun vs => ∃ ds, vs = [.tuple ds] ∧ ∃ I : Nat → List Addr → List Sl → Prop, I 0 L Γ ∧
    (∀ i d' L' Γ' g, ds[i]? = some d' → I i L' Γ' → StP K B (g :: G) L' ((Γ'.set j1 (.d (.int (i : Int)))).set j2 (.d d')) t (P.inLoop (I (i + 1)))) ∧ ∀ L' Γ', I ds.length L' Γ' → P.nx L' Γ') :
    StP K B G L Γ (tFor (iEnumT K ta) (gTup K 2 (gCons (gName j1) (gCons (gName j2) gNil))) t) P := fun σ H D E M =>
  h σ H _ E fun vs dd H1 g1 dn ⟨ds, e, I, h0, hs, hd⟩ => by
    subst e
    cases dn with
    | cons dn dn2 =>
      cases dn2
      cases dn with
      | @tup a xs _ e1 h2 =>
        have E1 := g1.env.gpush
        refine ⟨a, xs, rfl, Same.sqt (hid_sub _ _) e1, for_enumT (xs := xs) (fun i σ' H' => ∃ L' Γ', I i L' Γ' ∧ Env K B (hid (L ++ B.M) H1 :: G) L' H' σ' Γ') ⟨L, Γ, h0, E1⟩ (fun i σ' H' _ ⟨L', Γ', _, E'⟩ => ?_) (fun i x T σ' H' hi ⟨L', Γ', hI, E'⟩ hT => ?_) (fun σ' H' ⟨L', Γ', hI, E'⟩ => ?_)⟩
        · exact Same.sqt (hid_sub _ _) (Same.sqt (E'.gh _ (List.mem_cons_self ..)) e1)
        · obtain ⟨d', e', dn'⟩ := h2.getV hi
          have gn := Go.new (o := .tup [.int (i : Nat), x]) E' hT
          have E2 := gn.env
          have dx := dn'.mono (E2.gh _ (List.mem_cons_self ..))
          refine ⟨T, _, rfl, .inl (.inl upd_same), rfl, _, _, rfl, _, _, rfl, rfl, ?_⟩
          refine hs i d' L' Γ' _ e' hI _ _ _ ((E2.put j1 (.int _)).put j2 dx) ⟨fun L2 Γ2 σ2 H2 q E2 => ⟨L2, Γ2, q, E2⟩, M.rt, fun L2 Γ2 σ2 H2 q E2 => M.nx _ _ _ _ q E2.gpop, fun L2 Γ2 σ2 H2 q E2 => ⟨L2, Γ2, q, E2⟩⟩
        · rw [h2.length] at hI
          exact M.nx _ _ _ _ (hd L' Γ' hI) E'.gpop
end
end DL
/-! Defs that show values by repr: where they run, nothing else is being shown. -/
namespace DL
open PySem PySem.Spec PyProof.Rows L2

/-- a def's promise where no container is being shown -/
structure FnG (P : Program) (w : World) (K : PySem.W.Frag) (mg : Str → Option Value) (base : Heap) (k : Nat) (f : Addr) (fd : FuncData) (ps : List Str) (sp : Sp) : Prop where
  len : ∀ vs H Q E, sp vs H Q E → vs.length = ps.length
  go : ∀ (B : Around) (fs : List PySem.Env) (t : Shared) (H : Hp) (gs : Args) (us : List Value) (vs : List V) (Q : VK) (E : XK),
    B.guards = some [] → Room k B → Env0 P w K mg base B fs t H → BindsTo t fd gs (ps.zip us) → Vals vs us → sp vs H Q E →
      codeAny (model P w) B (.call (.ref f) gs) (CR CX0 fs P w H t Q E) t

section
variable {P : Program} {w : World} {K : PySem.W.Frag} {mg : Str → Option Value} {base : Heap}

theorem Fun.okG {x qual : Str} {st : Stmt} {f : Addr} {fd : FuncData} {N ps : List Str} {k : Nat} {sp : Sp} (F : Fun K x qual st f fd) (S : FnScope N ps (defScope st))
    (len : ∀ vs H Q E, sp vs H Q E → vs.length = ps.length)
    (body : ∀ (cd : Value) (B : Around) (fs : List PySem.Env) (t : Shared) (H : Hp) (vs : List V) (Q : VK) (E : XK),
      (B.deeper (envOfC qual (defScope st) t.heap.objs.size f cd)).guards = some [] →
      Room k (B.deeper (envOfC qual (defScope st) t.heap.objs.size f cd)) → sp vs H Q E →
      ∃ r, PSs (cxOf CX0 P w K mg base N qual (defScope st) f cd B fs t H E).nox (defBody st) r ∧ r { nx := fun _ H' => Q .non H', rt := Q } (start N vs) H) :
    FnG P w K mg base (k + 1) f fd ps sp := by
  obtain ⟨oc, od, kV, doc, pm, an, cd, ct, osl, rfl, lk, hcd⟩ := F.ex
  refine ⟨len, ?_⟩
  intro B fs t H gs us vs Q E hg room e0 bt rv hsp
  have hl : vs.length = ps.length := len _ _ _ _ hsp
  have KT : K.In t.heap := e0.mod.kin.keeps fun b o e => (e0.bs b o e).1
  have nl : t.heap.NoLimit := e0.mod.nolimit.keeps fun b o e => (e0.bs b o e).1
  refine codeAny_call_function room.depth (KT _ _ lk) rfl S.co S.gen rfl (PySem.W.codeRec_of KT hcd) (bt _ _ _ _ ?_)
  refine wpAny_newFunctionEnv_cells S.kind (fun ⟨n, v⟩ hy => (S.par n (List.of_mem_zip hy).1).imp id fun q => ⟨q, PySem.W.cellsFrom_some _ _ _ (.inl q)⟩) ?_
  rintro env rfl t1 ic
  refine ⟨nl.keeps ic.toInCall.keep, codeAny_func ?_⟩
  obtain ⟨r, hr, hq⟩ := body cd B fs t H vs Q E hg (room.deeper _) hsp
  have I1 := inv_start (CX := CX0) (E := E) S room.hd e0 hl rv ic
  have go := hr.nox.run [] t1 (start N vs) H _ I1 hq
  refine wpAny_mono go ?_ fun _ _ z => z
  intro fl t2 ends
  rcases fl with _ | _ | _ | u
  · obtain ⟨σ2, H2, J, q⟩ := ends
    exact ⟨.non, H2, J.os, J.bare, J.base, J.hok, rfl, q⟩
  · obtain ⟨_, _, _, z⟩ := ends
    exact z.elim
  · obtain ⟨_, _, _, z⟩ := ends
    exact z.elim
  · obtain ⟨v, σ2, H2, J, ru, q⟩ := ends
    exact ⟨v, H2, J.os, J.bare, J.base, J.hok, ru, q⟩
end

/-! ### calls of such defs -/
section
variable {X : Cx} {k : Nat} {f : Addr} {fd : FuncData} {ps : List Str} {sp : Sp} {E : XK} {x : Str} {p pos : Pos} {e : Expr} {es : List Expr} {t : TA}
theorem pe_callG (F : FnG X.prog X.w X.K X.mg X.base k f fd ps sp) (room : Room k X.A) (gd : X.A.guards = some []) (gx : Gl X x) (mx : X.mg x = some (.ref f)) (kf : PySem.W.keepIn X.K (.ref f) = true) (bd : Binds X.K fd ps [])
    (ea : PA X (e :: es) t) (nd : (x == ("__debug__" : Str)) = false := by decide) (st : starEach (e :: es) X.env = (false, eval e X.env) :: starEach es X.env := by rfl)
    (pl : (backTo pos (starEach es X.env)).any (·.1) = false := by rfl) : PE X (.Call (.Name x p) (e :: es) [] pos) (tCall sp [] E t) := by
  constructor
  intro pins s σ H Q I tq
  refine wpAny_Call_Name_kw (ld_glob I gx mx (PySem.W.callWith_K (h₀ := X.base) I.ok.mod.kin kf (thn (ea.run pos pins s σ H _ I tq) ?_) st pl) nd)
  rintro us s1 ⟨vs, H1, I1, rv, q⟩
  refine ⟨I1.kIn, ?_⟩
  rw [List.append_nil] at q
  have hl : (us ++ []).length = ps.length := by
    rw [List.append_nil, ← rv.length]
    exact F.len _ _ _ _ q
  have bt := bd s1 us I1.kIn hl
  rw [List.append_nil] at bt
  refine wpAny_call (codeAny_mono (F.go X.A X.stack s1 H1 ⟨us, []⟩ us vs Q E gd room I1.env0 bt rv q) ?_)
  intro r s2 hr
  match r, hr with
  | .error _, hr => exact hr.elim
  | .ok (.ret u), hr => exact I1.after hr
  | .ok .next, hr => exact hr.elim
  | .ok .brk, hr => exact hr.elim
  | .ok .cont, hr => exact hr.elim
end

/-! ### repr -/
mutual
/-- how long a text can be -/
def cost : PyData → Nat
  | .list xs => costAll xs + 3
  | .tuple xs => costAll xs + 3
  | .str x => (reprText x).length
  | .dict _ => 0
  | _ => 1921
def costAll : List PyData → Nat
  | [] => 0
  | x :: xs => cost x + 2 + costAll xs
end
mutual
theorem shown_le : ∀ {d : PyData}, d.showable = true → d.hasDict = false → d.shown.length ≤ cost d
  | .none, _, _ => by decide
  | .bool true, _, _ => by decide
  | .bool false, _, _ => by decide
  | .int i, h, _ => by
    simp only [PyData.showable, decide_eq_true_eq] at h
    simp only [PyData.shown, cost]
    exact int_text_len_1921 h
  | .str x, _, _ => by simp only [PyData.shown, cost]; exact Nat.le_refl _
  | .list xs, h, h2 => by
    simp only [PyData.showable] at h
    simp only [PyData.hasDict] at h2
    have := shownAll_le h h2
    simp only [PyData.shown, cost]
    have := listText_len_le (PyData.shownAll xs)
    omega
  | .tuple xs, h, h2 => by
    simp only [PyData.showable] at h
    simp only [PyData.hasDict] at h2
    have := shownAll_le h h2
    simp only [PyData.shown, cost]
    have := tupleText_len_le (PyData.shownAll xs)
    omega
  | .dict _, _, h => by simp [PyData.hasDict] at h
theorem shownAll_le : ∀ {ds : List PyData}, PyData.showableAll ds = true → PyData.hasDictAll ds = false → ((PyData.shownAll ds).map (·.length)).sum + 2 * (PyData.shownAll ds).length ≤ costAll ds
  | [], _, _ => by simp [PyData.shownAll, costAll]
  | d :: ds, h, h2 => by
    simp only [PyData.showableAll, Bool.and_eq_true] at h
    simp only [PyData.hasDictAll, Bool.or_eq_false_iff] at h2
    have a := shown_le h.1 h2.1
    have b := shownAll_le h.2 h2.2
    simp only [PyData.shownAll, costAll, List.map_cons, List.sum_cons, List.length_cons]
    omega
end
mutual
theorem Dn.dp {K : PySem.W.Frag} {H : Hp} : ∀ {v : V} {d : PyData}, Dn K H v d → d.hasDict = false → Dp K H v d
  | _, _, .non, _ => .non
  | _, _, .bl b, _ => .bl b
  | _, _, .int i, _ => .int i
  | _, _, .str x, _ => .str x
  | _, _, .lst h1 h2, h => .lst (.inl (.inl h1)) (DnA.dp h2 (by simpa only [PyData.hasDict] using h))
  | _, _, .tup h1 h2, h => .tup h1 (DnA.dp h2 (by simpa only [PyData.hasDict] using h))
  | _, _, .emp _, h => by simp [PyData.hasDict] at h
theorem DnA.dp {K : PySem.W.Frag} {H : Hp} : ∀ {vs : List V} {ds : List PyData}, DnA K H vs ds → PyData.hasDictAll ds = false → DpAll K H vs ds
  | _, _, .nil, _ => .nil
  | _, _, .cons h1 h2, h => by
    simp only [PyData.hasDictAll, Bool.or_eq_false_iff] at h
    exact .cons (Dn.dp h1 h.1) (DnA.dp h2 h.2)
end
def rReprD (K : PySem.W.Frag) : List V → Hp → VK → Prop := fun xs H Q => ∃ (a : Addr) (d : PyData), xs = [.ref a] ∧ Dp K H (.ref a) d ∧ d.showable = true ∧ d.hasDict = false ∧ d.depth < 64 ∧ cost d ≤ sizeLine ∧ Q (.str d.shown) H
theorem call_reprD {X : Cx} (hu : X.A.units + 64 < cLine) (gd : X.A.guards = some []) : CallR X (.builtin "repr") (rReprD X.K) := by
  rintro pins s σ H xs us Q I r ⟨a, d, rfl, dp, sh, nd, dd, cz, q⟩
  obtain ⟨u, rfl, ru⟩ := vals1 r
  obtain rfl : u = Value.ref a := ru
  obtain ⟨as, rd⟩ := Dp.reads I d _ _ dp rfl
  refine repr_of_reads' rd sh (fun z => by rw [nd] at z; cases z) gd (by omega) (fun b o e => e) (fun h' u tk hk => ?_) (Nat.le_trans (shown_le sh nd) cz)
  exact ⟨.str d.shown, H, I.kept hk, ⟨_, rfl⟩, q⟩
section
variable {K : PySem.W.Frag} {B : Bs} {G : List Hp} {L : List Addr} {Γ : List Sl} {k : PyData → Prop}
def isBox : PyData → Bool
  | .list _ => true
  | .tuple _ => true
  | _ => false
theorem cok_repr {d : PyData} (hb : isBox d = true) (sh : d.showable = true) (nd : d.hasDict = false) (dd : d.depth < 64) (cz : cost d ≤ sizeLine) (hk : k (.str d.shown)) : COk K B G L Γ (rReprD K) [d] k := fun σ H Q vs E d1 q => by
  cases d1 with
  | cons h1 h2 =>
    cases h2
    have dp := Dn.dp (h1.mono (hid_sub _ _)) nd
    have go := q (.str d.shown) _ H (Go.refl E) (.str _) hk
    cases h1 with
    | lst _ _ => exact ⟨_, _, rfl, dp, sh, nd, dd, cz, go⟩
    | tup _ _ => exact ⟨_, _, rfl, dp, sh, nd, dd, cz, go⟩
    | _ => cases hb
end

/-! ### the head -/
/-- the script as the only thing that is tracked, where it is not the module's own -/
def scr (K : PySem.W.Frag) (a : Addr) (o : Obj) (xs : List V) : Hp := fun b => if b = a ∧ (K.lookup a).isNone = true then some (.frz o (.lst xs)) else none
theorem scr_some {K : PySem.W.Frag} {a b : Addr} {o : Obj} {xs : List V} {u : HO} (h : scr K a o xs b = some u) : b = a ∧ K.lookup a = none ∧ u = .frz o (.lst xs) := by
  unfold scr at h
  by_cases c : b = a ∧ (K.lookup a).isNone = true
  · rw [if_pos c] at h
    exact ⟨c.1, by simpa using c.2, (Option.some.inj h).symm⟩
  · rw [if_neg c] at h
    cases h
theorem scr_none {K : PySem.W.Frag} {a b : Addr} {o : Obj} {xs : List V} (h : b = a → K.lookup a ≠ none) : scr K a o xs b = none := by
  cases e : scr K a o xs b with
  | none => rfl
  | some u =>
    obtain ⟨h1, h2, _⟩ := scr_some e
    exact absurd h2 (h h1)

theorem law_callG {P : Program} {w : World} {K : PySem.W.Frag} {mg mb : Str → Option Value} {k : Nat} {f a : Addr} {fd : FuncData} {x : Str} {sp : Sp} {t : Shared} {vs : List Value} {ns : List Int}
    (inK : K.In t.heap) (gl : t.heap.Ns mainGlobals mg) (bl : t.heap.Ns builtinsNs mb) (bb : ∀ x : Str, x ≠ "__name__" → mb x = bootBuiltins x) (nl : t.heap.NoLimit) (ng : t.gens = #[])
    (at_ : t.heap.get? a = some { cls := .type "list", data := .seq vs.toArray }) (ia : IntsAre vs ns) (sz : ns.length ≤ sizeLine) (room : Room k callerA)
    (F : ∀ base : Heap, K.In base → base.Ns mainGlobals mg → FnG P w K mg base k f fd [x] sp) (bind : ∀ (s : Shared) (u : Value), BindsTo s fd ⟨[u], []⟩ [(x, u)])
    (hsp : ∀ H : Hp, SqL K H a (ns.map V.int) → sp [.ref a] H (fun v _ => v = .bl true) fun _ _ _ => False) :
    codeAny (model P w) callerA (.call (.ref f) ⟨[.ref a], []⟩) (fun r s' => r = .ok (.ret (.bool true)) ∧ OldK t.heap s'.heap ∧ s'.os = t.os ∧ AllBare s'.gens) t := by
  have rv : Vals (ns.map V.int) vs := vals_ints ia
  have zs : (ns.map V.int).length ≤ sizeLine := by rw [List.length_map]; exact sz
  let o : Obj := { cls := .type "list", data := .seq vs.toArray }
  let H : Hp := scr K a o (ns.map V.int)
  have onlyA : ∀ {b : Addr} {u : HO}, H b = some u → b = a ∧ K.lookup a = none ∧ u = .frz o (.lst (ns.map V.int)) := fun e => scr_some e
  have ok : HOk P w H t.heap := by
    intro b u e
    obtain ⟨e1, _, e2⟩ := onlyA e
    rw [e1, e2]
    exact ⟨at_, zs, vs, _, rv, at_⟩
  have sq : SqL K H a (ns.map V.int) := by
    cases q : K.lookup a with
    | none => exact .inl (.inr ⟨o, if_pos ⟨rfl, by rw [q]; rfl⟩⟩)
    | some o1 =>
      have e1 := inK a o1 q
      rw [at_] at e1
      cases e1
      exact .inr ⟨_, vs.toArray, _, q, rfl, rfl, rfl, by rw [List.size_toArray, ia.length]; exact sz, by simpa using rv⟩
  have kept : ∀ {b : Addr} {ob : Obj}, t.heap.get? b = some ob → H b = none → (hidT t.heap H).get? b = some ob := fun e n => hidT_get e n
  have nsB : ∀ {b : Addr} {m : Str → Option Value}, t.heap.Ns b m → (hidT t.heap H).Ns b m := by
    rintro b m ⟨ob, es, ep, e, d, r⟩
    refine ⟨ob, es, ep, kept e (scr_none fun z => ?_), d, r⟩
    subst z
    rw [at_] at e
    cases e
    cases d
  have kB : K.In (hidT t.heap H) := fun b ob e => kept (inK b ob e) (scr_none fun z => by
    subst z
    rw [show K.lookup b = some ob from e]
    exact fun z => nomatch z)
  obtain ⟨mc, l1, l2⟩ := nl
  have M : Mod K mg (hidT t.heap H) := ⟨kB, nsB gl, ⟨mb, nsB bl, bb⟩, ⟨mc, nsB l1, l2⟩⟩
  have e0 : Env0 P w K mg (hidT t.heap H) callerA [] t H :=
    ⟨rfl, M, fun b ob e => of_hidT e, Nat.le_of_eq (hidT_size _ _), trivial, fun b hb => absurd (show b ∈ ([] : List Addr) from hb) (by simp), ok, .of_eq ng⟩
  have run := (F _ kB (nsB gl)).go callerA [] t H ⟨[.ref a], []⟩ [.ref a] [.ref a] _ _ rfl room e0 (bind t (.ref a)) (.cons rfl .nil) (hsp H sq)
  refine codeAny_mono run ?_
  intro r s2 hr
  match r, hr with
  | .error _, hr => exact hr.elim
  | .ok .next, hr => exact hr.elim
  | .ok .brk, hr => exact hr.elim
  | .ok .cont, hr => exact hr.elim
  | .ok (.ret u), hr =>
    obtain ⟨v, H2, os, bare, un, ok2, ru, q⟩ := hr
    obtain rfl : v = V.bl true := q
    obtain rfl : u = Value.bool true := ru
    refine ⟨rfl, OldK.of_keep ?_, os, bare⟩
    intro b ob e
    cases c : H b with
    | none => exact un.keep b ob e c (by intro z; exact absurd (show b ∈ ([] : List Addr) from z) (by simp)) (by simp)
    | some u =>
      obtain ⟨e1, _, e2⟩ := onlyA c
      rw [e2] at c
      obtain ⟨g, _⟩ := ok2 b _ (un.frzs b o _ c)
      rw [e1] at e g
      rw [at_] at e
      cases e
      rw [e1]
      exact g
theorem walk_ofG {l : PySem.W.OpenLaw} {n k : Nat} {q : Program} {loose : List Str} {XP : (Str → Option Value) → Heap → Prop} {YP : World → Heap → Prop} {d : DefRec} {K : Params → PySem.W.Frag} {sp : PySem.W.Frag → Sp} {x : Str}
    (hn : l.most = some n) (small : n ≤ sizeLine) (nodf : d.params.defaults = []) (room : Room k callerA) (hY : ∀ (w : World) (h : Heap), YP w h → (K w.params).In h)
    (F : ∀ (w : World) (mg : Str → Option Value) (f : Addr) (h : Heap), (K w.params).In h → h.Ns mainGlobals mg → mg d.name = some (.ref f) →
      ∃ fd : FuncData, (∀ (s : Shared) (u : Value), BindsTo s fd ⟨[u], []⟩ [(x, u)]) ∧ ∀ base : Heap, (K w.params).In base → base.Ns mainGlobals mg → FnG l.prog w (K w.params) mg base k f fd [x] (sp (K w.params)))
    (hsp : ∀ (K : PySem.W.Frag) (H : Hp) (a : Addr) (ns : List Int), ns.length ≤ n → SqL K H a (ns.map V.int) → sp K [.ref a] H (fun v _ => v = .bl true) fun _ _ _ => False) :
    PySem.W.WalkO q loose XP YP l.row.toRowW d [] (fun f vs => PySem.call f vs) := by
  refine Att.attach_call hn nodf ?_
  intro w s₀ t mg mb f o pm cd doc a vs ns G Y ho hd hcd hmg hobj hints hlen ng
  have inK : (K w.params).In t.heap := hY w _ Y
  obtain ⟨fd, bind, FG⟩ := F w mg f _ inK G.T.g hmg
  exact law_callG inK G.T.g G.T.b G.T.builtins G.T.nolimit ng hobj hints (Nat.le_trans hlen small) room FG bind fun H hS => hsp _ H a ns hlen hS
end DL
/-! More words over data: xs[i] op= e, extend, pop, several new lists at once, max, comparing rows. -/
namespace DL
open PySem PySem.Spec PyProof.Rows L2

/-! ### a list's item, by value -/
def rGetL (K : PySem.W.Frag) : V → V → Hp → VK → Prop := fun o i H Q => ∃ (p : Addr) (xs : List V) (n : Nat) (x : V), o = .ref p ∧ i = .int n ∧ SqL K H p xs ∧ xs[n]? = some x ∧ Q x H
theorem get_list {X : Cx} : PGet X (rGetL X.K) := by
  rintro pins s σ H o i ov iv Q I ro ri ⟨p, xs, n, x, rfl, rfl, hp, hx, q⟩
  obtain rfl : ov = .ref p := ro
  obtain ⟨t, rfl⟩ := ri
  obtain ⟨its, r, pl, hz⟩ := I.list hp
  obtain ⟨w, ew, rw'⟩ := r.get hx
  have hn : n < xs.length := (List.getElem?_eq_some_iff.mp hx).1
  have big := line63
  exact wpAny_getItem_list pl.isList (by omega) (by omega) (by simpa using ew) ⟨x, H, I, rw', q⟩
def ipM : TIp := fun x y H Q => ∃ i j : Int, x = .int i ∧ y = .int j ∧ CMulW i j ∧ Q (.int (i * j)) H
theorem ip_mul {X : Cx} : PIp X .Mult ipM := by
  rintro pins s σ H x y v u Q I r1 r2 ⟨i, j, rfl, rfl, c, q⟩
  obtain ⟨t, rfl⟩ := r1
  obtain ⟨t', rfl⟩ := r2
  exact PySem.P.imul_int ⟨.int _, H, I.tok _, ⟨_, rfl⟩, q⟩ c.ok

section
variable {K : PySem.W.Frag} {B : Bs} {G : List Hp} {L : List Addr} {Γ : List Sl} {H H' H2 : Hp} {σ : L2.St}
variable {te ta tb tc : TE} {tt tu : TT} {tr : TA} {k : PyData → Prop} {x y : PyData} {P P' : PD} {t u : TS}
theorem st_augM {i : Nat} {a : Int} (h0 : Γ[i]? = some (.d (.int a))) (h : EvP K B G L Γ te fun d => ∃ b, d = .int b ∧ CMulW a b ∧ P.nx L (Γ.set i (.d (.int (a * b))))) : StP K B G L Γ (tAug i te ipM) P := fun σ H D E M => by
  obtain ⟨v, e, dn⟩ := E.get h0
  refine ⟨v, e, h σ H _ E fun w d H1 g1 dn1 ⟨b, e1, c, hk⟩ => ?_⟩
  subst e1
  exact ⟨a, b, dn_int dn, dn_int dn1, c, M.nx _ _ _ _ hk (g1.env.put i (.int _))⟩
/-- xs[j] += e, xs an own list of numbers -/
theorem st_addOwn {i : Nat} {l : Addr} {xs : List PyData} (hi : Γ[i]? = some (.own l xs)) (h : EvP K B G L Γ tb fun n => ∃ (j : Nat) (a : Int), n = .int (j : Int) ∧ xs[j]? = some (.int a) ∧
      EvP K B G L Γ te fun d => ∃ b : Int, d = .int b ∧ P.nx L (Γ.set i (.own l (xs.set j (.int (a + b)))))) :
    StP K B G L Γ (tAugS (tVar i) tb te (rGetL K) (ipI fun a b => a + b) rSetL) P := fun σ H D E M => by
  obtain ⟨e, vs, hl, dn⟩ := E.getO hi
  refine ⟨_, e, h σ H _ E fun u n H1 g1 dn1 ⟨j, a, en, hj, h2⟩ => ?_⟩
  subst en
  obtain ⟨_, ws, hl1, dn2⟩ := g1.env.getO hi
  obtain ⟨w, ew, dw⟩ := dn2.get hj
  refine ⟨l, ws, j, w, rfl, dn_int dn1, .inl (.inl hl1), ew, h2 σ H1 _ g1.env fun v d H2 g2 dn3 ⟨b, ed, hk⟩ => ?_⟩
  subst ed
  obtain ⟨_, zs, hl2, dn4⟩ := g2.env.getO hi
  refine ⟨a, b, dn_int dw, dn_int dn3, l, zs, (j : Int), j, rfl, dn_int dn1, hl2, ?_, M.nx _ _ _ _ hk (Env.write g2.env hi (dn4.set j (.int _)))⟩
  have : j < xs.length := (List.getElem?_eq_some_iff.mp hj).1
  rw [dn4.length]
  unfold ixN
  rw [if_pos (by omega), if_pos (by omega)]
  simp
/-- xs.extend(ys) -/
theorem st_extend {i : Nat} {l : Addr} {xs : List PyData} (hi : Γ[i]? = some (.own l xs)) (h : EvP K B G L Γ te fun d => ∃ ys, d = .list ys ∧ xs.length + ys.length ≤ 1000000 ∧ P.nx L (Γ.set i (.own l (xs ++ ys)))) :
    StP K B G L Γ (tDrop (tBM K "list" rExtend (tVar i) (tCons te tNil))) P := fun σ H D E M => by
  obtain ⟨e, vs, hl, dn⟩ := E.getO hi
  refine ⟨_, e, .inl ⟨rfl, vs, .inl (.inl hl)⟩, h σ H _ E fun v d H1 g1 dn1 ⟨ys, ed, hz, hk⟩ => ?_⟩
  subst ed
  obtain ⟨e1, ws, hl1, dn2⟩ := g1.env.getO hi
  cases dn1 with
  | @lst b zs _ hb dz =>
    refine ⟨l, b, ws, zs, rfl, rfl, hl1, hid_sub _ _ _ _ hb, ?_, M.nx _ _ _ _ hk (Env.write g1.env hi (dn2.append dz))⟩
    rw [dn2.length, dz.length]
    exact sz_ok hz
/-- xs.pop() as a statement -/
theorem st_pop {i : Nat} {l : Addr} {xs : List PyData} (hi : Γ[i]? = some (.own l xs)) (hne : xs ≠ []) (hk : P.nx L (Γ.set i (.own l xs.dropLast))) :
    StP K B G L Γ (tDrop (tBM0 K "list" rPop (tVar i))) P := fun σ H D E M => by
  obtain ⟨e, vs, hl, dn⟩ := E.getO hi
  have hp : 0 < xs.length := List.length_pos_iff.mpr hne
  have hv : vs.length = xs.length := dn.length
  obtain ⟨y, hy⟩ : ∃ y, vs[vs.length - 1]? = some y := ⟨_, List.getElem?_eq_getElem (by omega)⟩
  refine ⟨_, e, .inl ⟨rfl, vs, .inl (.inl hl)⟩, l, vs, y, rfl, rfl, hl, hy, M.nx _ _ _ _ hk (Env.write E hi ?_)⟩
  rw [List.dropLast_eq_take, List.dropLast_eq_take, hv]
  exact dn.take _
/-- a, b = two new lists -/
theorem st_parOO {i j : Nat} (h : EvN K B G L Γ ta fun xs => ∀ l1 : Addr, EvN K B G (l1 :: L) Γ tb fun ys => ∀ l2 : Addr, l1 ≠ l2 → P.nx (l2 :: l1 :: L) ((Γ.set i (.own l1 xs)).set j (.own l2 ys))) : StP K B G L Γ (tPar i j (tCons ta (tCons tb tNil))) P := fun σ H D E M =>
  h σ H _ E fun p vs xs H1 g1 hp hv dv h2 => h2 p σ H1 _ (Env.temp E g1 hp hv) fun q ws ys H2 g2 hq hw dw hk => by
    have hpq : p ≠ q := ne_of_none hv hq
    have E1 := Env.take E g1 hp hv i dv
    have g3 := Go.step E1 g2.rl g2.env.ws
    have E2 := Env.take E1 g3 hq hw j dw
    exact ⟨_, _, rfl, M.nx _ _ _ _ (hk q hpq) E2⟩
end
end DL
/-! Fractions, rows, the run of a line: what they are, apart from any program. -/
namespace Mx
open PySem

abbrev Fr := Int × Int
def frD (x : Fr) : PyData := .tuple [.int x.1, .int x.2]
def FOk (x : Fr) : Prop := 0 < x.2 ∧ Nat.gcd x.1.natAbs x.2.natAbs = 1
def val (x : Fr) : Rat := (x.1 : Rat) / (x.2 : Rat)

theorem ratInt_ne {a : Int} (h : a ≠ 0) : (a : Rat) ≠ 0 := fun z => h (Rat.intCast_inj.mp (z.trans (by rfl)))
theorem ratInt_pos {a : Int} (h : 0 < a) : (0 : Rat) < (a : Rat) := by
  have := Rat.intCast_lt_intCast.mpr h
  exact this
theorem val_eq {x : Fr} {n d : Int} (hx : 0 < x.2) (hd : 0 < d) : val x = (n : Rat) / (d : Rat) ↔ x.1 * d = n * x.2 := by
  have h1 : (x.2 : Rat) ≠ 0 := ratInt_ne (by omega)
  have h2 : (d : Rat) ≠ 0 := ratInt_ne (by omega)
  constructor
  · intro h
    have h3 : (x.1 : Rat) * d = n * x.2 := by
      unfold val at h
      grind
    have h4 : ((x.1 * d : Int) : Rat) = ((n * x.2 : Int) : Rat) := by
      rw [Rat.intCast_mul, Rat.intCast_mul]
      exact h3
    exact Rat.intCast_inj.mp h4
  · intro h
    have h4 : ((x.1 * d : Int) : Rat) = ((n * x.2 : Int) : Rat) := by rw [h]
    rw [Rat.intCast_mul, Rat.intCast_mul] at h4
    unfold val
    grind
/-- a reduced fraction that is u / S is no longer than these -/
theorem FOk.small {x : Fr} {u S : Int} (h : FOk x) (hS : 0 < S) (e : val x * (S : Rat) = (u : Rat)) : x.1.natAbs ≤ u.natAbs ∧ x.2.natAbs ≤ S.natAbs ∧ ∃ c : Int, 0 < c ∧ S = x.2 * c ∧ u = x.1 * c := by
  obtain ⟨h1, h2⟩ := h
  have hs : (S : Rat) ≠ 0 := ratInt_ne (by omega)
  have e2 : val x = (u : Rat) / (S : Rat) := by grind
  have e3 := (val_eq h1 hS).mp e2
  have d1 : x.2.natAbs ∣ S.natAbs := by
    have : x.2 ∣ x.1 * S := ⟨u, by rw [e3]; exact Int.mul_comm _ _⟩
    have h3 : x.2.natAbs ∣ x.1.natAbs * S.natAbs := by
      rw [← Int.natAbs_mul]
      exact Int.natAbs_dvd_natAbs.mpr this
    exact (Nat.Coprime.dvd_of_dvd_mul_left (show Nat.Coprime x.2.natAbs x.1.natAbs by
      unfold Nat.Coprime
      rw [Nat.gcd_comm]
      exact h2) h3)
  obtain ⟨c, hc⟩ := Int.natAbs_dvd_natAbs.mp d1
  have hc0 : 0 < c := by
    rcases Int.lt_trichotomy c 0 with q | q | q
    · have := Int.mul_neg_of_pos_of_neg h1 q
      omega
    · rw [q] at hc
      omega
    · exact q
  have e4 : u = x.1 * c := by
    rw [hc] at e3
    have : x.2 * (x.1 * c) = x.2 * u := by rw [Int.mul_comm x.2 u, ← e3]; grind
    exact (Int.eq_of_mul_eq_mul_left (by omega) this).symm
  refine ⟨?_, ?_, c, hc0, hc, e4⟩
  · rw [e4, Int.natAbs_mul]
    exact Nat.le_mul_of_pos_right _ (by omega)
  · rw [hc, Int.natAbs_mul]
    exact Nat.le_mul_of_pos_right _ (by omega)
theorem FOk.inj {x y : Fr} (hx : FOk x) (hy : FOk y) (e : val x = val y) : x = y := by
  have e1 := (val_eq (n := y.1) hx.1 hy.1).mp (by rw [e]; rfl)
  obtain ⟨_, h2, c, hc, e3, e4⟩ := hx.small (u := y.1) hy.1 (by
    rw [e]
    have := ratInt_ne (a := y.2) (by have := hy.1; omega)
    unfold val
    grind)
  obtain ⟨_, h5, _⟩ := hy.small (u := x.1) hx.1 (by
    rw [← e]
    have := ratInt_ne (a := x.2) (by have := hx.1; omega)
    unfold val
    grind)
  have h1 := hx.1
  have h3 := hy.1
  have : x.2 = y.2 := by omega
  rw [this] at e1
  have : x.1 = y.1 := Int.eq_of_mul_eq_mul_right (by omega) e1
  exact Prod.ext this (by assumption)

/-! ### rows of whole numbers -/
def gcdL : List Int → Nat
  | [] => 0
  | x :: xs => Nat.gcd x.natAbs (gcdL xs)
def prim (u : List Int) : List Int := u.map fun x => x / (gcdL u : Int)
theorem gcdL_dvd : ∀ {u : List Int} {x : Int}, x ∈ u → ((gcdL u : Nat) : Int) ∣ x
  | y :: ys, x, h => by
    rcases List.mem_cons.mp h with rfl | h
    · exact Int.ofNat_dvd_left.mpr (Nat.gcd_dvd_left _ _)
    · exact Int.dvd_trans (Int.ofNat_dvd.mpr (Nat.gcd_dvd_right _ _)) (gcdL_dvd h)
theorem gcdL_pos {u : List Int} (h : ∃ x ∈ u, x ≠ 0) : 0 < gcdL u := by
  obtain ⟨x, hx, hn⟩ := h
  rcases Nat.eq_zero_or_pos (gcdL u) with z | z
  · have := gcdL_dvd hx
    rw [z] at this
    exact absurd (Int.zero_dvd.mp this) hn
  · exact z
theorem gcdL_mul (a : Nat) : ∀ u : List Int, gcdL (u.map fun x => (a : Int) * x) = a * gcdL u
  | [] => by simp [gcdL]
  | x :: xs => by
    simp only [List.map_cons, gcdL]
    rw [gcdL_mul a xs, Int.natAbs_mul, Int.natAbs_natCast, Nat.gcd_mul_left]
theorem prim_mul {a : Nat} (h : 0 < a) (u : List Int) : prim (u.map fun x => (a : Int) * x) = prim u := by
  unfold prim
  rw [gcdL_mul, List.map_map]
  apply List.map_congr_left
  intro x _
  simp only [Function.comp]
  rw [Int.natCast_mul, Int.mul_ediv_mul_of_pos _ _ (by omega)]
/-- rows that are one another times numbers above 0 -/
theorem prim_eq {u v : List Int} {a b : Int} (ha : 0 < a) (hb : 0 < b) (hl : u.length = v.length) (h : ∀ k : Nat, a * u.getD k 0 = b * v.getD k 0) : prim u = prim v := by
  obtain ⟨m, rfl⟩ := Int.eq_ofNat_of_zero_le (Int.le_of_lt ha)
  obtain ⟨n, rfl⟩ := Int.eq_ofNat_of_zero_le (Int.le_of_lt hb)
  rw [← prim_mul (a := m) (by omega) u, ← prim_mul (a := n) (by omega) v]
  congr 1
  apply List.ext_getElem
  · simp [hl]
  · intro k h1 h2
    have h1' : k < u.length := by simpa using h1
    have h2' : k < v.length := by simpa using h2
    have := h k
    simp only [List.getElem_map]
    rw [List.getD_eq_getElem?_getD, List.getD_eq_getElem?_getD, List.getElem?_eq_getElem h1', List.getElem?_eq_getElem h2'] at this
    simpa using this
theorem prim_len (u : List Int) : (prim u).length = u.length := by simp [prim]
theorem prim_get (u : List Int) (k : Nat) : (prim u).getD k 0 = u.getD k 0 / (gcdL u : Int) := by
  unfold prim
  by_cases h : k < u.length
  · simp [List.getD_eq_getElem?_getD, h]
  · simp [List.getD_eq_getElem?_getD, h]
theorem mem_getD {u : List Int} {k : Nat} (h : u.getD k 0 ≠ 0) : u.getD k 0 ∈ u := by
  by_cases q : k < u.length
  · rw [List.getD_eq_getElem?_getD, List.getElem?_eq_getElem q]
    simp
  · exfalso
    apply h
    rw [List.getD_eq_getElem?_getD, List.getElem?_eq_none (by omega)]
    rfl
theorem prim_abs (u : List Int) (k : Nat) : ((prim u).getD k 0).natAbs ≤ (u.getD k 0).natAbs := by
  rw [prim_get]
  by_cases h : u.getD k 0 = 0
  · rw [h]; simp
  · have hm := mem_getD h
    have hp := gcdL_pos ⟨_, hm, h⟩
    rw [Int.natAbs_ediv_of_dvd (gcdL_dvd hm)]
    exact Nat.div_le_self _ _

/-! ### trimming -/
def trim (u : List Int) : List Int := (u.reverse.dropWhile (· == 0)).reverse
theorem trim_id {u : List Int} (h : u.getLast? ≠ some 0) : trim u = u := by
  unfold trim
  cases e : u.reverse with
  | nil => simp [List.reverse_eq_nil_iff.mp e]
  | cons x xs =>
    have : u = (x :: xs).reverse := by rw [← e, List.reverse_reverse]
    have hx : x ≠ 0 := by
      intro z
      apply h
      rw [this, z]
      simp
    rw [List.dropWhile_cons]
    rw [if_neg (by simpa using hx)]
    exact this.symm

/-! ### the run -/
def sh (t : Nat → Rat) : Nat → Rat
  | 0 => 0
  | k + 1 => t k
/-- the torque behind shaft i and the angle of disc i, by powers of the pace -/
def run (J K : Nat → Rat) : Nat → (Nat → Rat) × (Nat → Rat)
  | 0 => (fun k => if k = 0 then K 0 else 0, fun k => if k = 0 then 1 else 0)
  | i + 1 => (fun k => (run J K i).1 k - J i * sh (run J K i).2 k, fun k => (run J K i).2 k + ((run J K i).1 k - J i * sh (run J K i).2 k) / K (i + 1))
def tq (J K : Nat → Rat) (i : Nat) : Nat → Rat := (run J K i).1
def tn (J K : Nat → Rat) (i : Nat) : Nat → Rat := (run J K i).2
/-- the end of a line of n + 1 discs -/
def en (J K : Nat → Rat) (n : Nat) : Nat → Rat := fun k => tq J K (n + 1) k + K (n + 1) * tn J K n k
/-- what is beyond the degree, the lead, and what stands at 0 -/
def alt (i : Nat) : Rat := if i % 2 = 0 then 1 else -1
end Mx
namespace Mx
open PySem

/-! ### rows that are a number times a polynomial -/
structure Rel (S : Int) (u : List Int) (f : Nat → Rat) : Prop where
  pos : 0 < S
  at_ : ∀ k, ((u.getD k 0 : Int) : Rat) = (S : Rat) * f k
def comb (a : Int) (u : List Int) (b : Int) (v : List Int) : List Int := (List.range (max u.length v.length)).map fun k => a * u.getD k 0 + b * v.getD k 0
theorem comb_len (a : Int) (u : List Int) (b : Int) (v : List Int) : (comb a u b v).length = max u.length v.length := by simp [comb]
theorem getD_out {u : List Int} {k : Nat} (h : u.length ≤ k) : u.getD k 0 = 0 := by
  rw [List.getD_eq_getElem?_getD, List.getElem?_eq_none h]
  rfl
theorem comb_get (a : Int) (u : List Int) (b : Int) (v : List Int) (k : Nat) : (comb a u b v).getD k 0 = a * u.getD k 0 + b * v.getD k 0 := by
  by_cases h : k < max u.length v.length
  · rw [List.getD_eq_getElem?_getD, List.getElem?_eq_getElem (by rw [comb_len]; exact h)]
    simp [comb]
  · rw [getD_out (by rw [comb_len]; omega), getD_out (u := u) (by omega), getD_out (u := v) (by omega)]
    omega
theorem Rel.ne {S : Int} {u : List Int} {f : Nat → Rat} (r : Rel S u f) {k : Nat} (h : f k ≠ 0) : u.getD k 0 ≠ 0 := by
  intro z
  have := r.at_ k
  rw [z] at this
  have hs := ratInt_ne (a := S) (by have := r.pos; omega)
  have h0 : ((0 : Int) : Rat) = 0 := rfl
  rw [h0] at this
  grind
/-! ### a step of the run in whole numbers -/
structure LN (ds ss : List Fr) : Prop where
  c1 : 1 ≤ ds.length
  c8 : ds.length ≤ 8
  len : ss.length = ds.length + 1
  dok : ∀ x ∈ ds, FOk x ∧ 0 < x.1 ∧ x.1 < 18446744073709551616 ∧ x.2 < 18446744073709551616
  sok : ∀ x ∈ ss, FOk x ∧ 0 ≤ x.1 ∧ x.1 < 18446744073709551616 ∧ x.2 < 18446744073709551616
  inn : ∀ i x, 0 < i → i < ds.length → ss[i]? = some x → 0 < x.1
def jv (ds : List Fr) (i : Nat) : Rat := val (ds.getD i (0, 1))
theorem val_pos {x : Fr} (h2 : 0 < x.2) : (0 < val x ↔ 0 < x.1) ∧ (0 ≤ val x ↔ 0 ≤ x.1) ∧ (val x = 0 ↔ x.1 = 0) := by
  have h := ratInt_pos h2
  have hi := Rat.inv_pos.mpr h
  have e : val x = (x.1 : Rat) * (x.2 : Rat)⁻¹ := Rat.div_def _ _
  have e0 : val x = 0 ↔ x.1 = 0 := by
    constructor
    · intro z
      have : (x.1 : Rat) = 0 := by
        have hn := ratInt_ne (a := x.2) (by omega)
        unfold val at z
        grind
      exact Rat.intCast_inj.mp (this.trans rfl)
    · intro z
      rw [e, z]
      show (0 : Rat) * _ = 0
      grind
  have p1 : 0 < x.1 → 0 < val x := fun q => by
    rw [e]
    exact Rat.mul_pos (ratInt_pos q) hi
  have n1 : x.1 < 0 → val x < 0 := fun q => by
    have q2 : 0 < (-x.1 : Int) := by omega
    have q3 := Rat.mul_pos (ratInt_pos q2) hi
    rw [e]
    rw [Rat.intCast_neg] at q3
    grind
  refine ⟨⟨fun q => ?_, p1⟩, ⟨fun q => ?_, fun q => ?_⟩, e0⟩
  · rcases Int.lt_trichotomy x.1 0 with z | z | z
    · have := n1 z
      grind
    · rw [e0.mpr z] at q
      exact absurd q (by decide +kernel)
    · exact z
  · rcases Int.lt_trichotomy x.1 0 with z | z | z
    · have := n1 z
      grind
    · omega
    · omega
  · rcases Int.lt_trichotomy x.1 0 with z | z | z
    · omega
    · rw [e0.mpr z]
      decide +kernel
    · exact Rat.le_of_lt (p1 z)
section
variable {ds ss : List Fr} (h : LN ds ss)
include h
end

abbrev bd (u : List Int) (e : Nat) : Prop := ∀ x ∈ u, x.natAbs < 2 ^ e
theorem bd.get {u : List Int} {e : Nat} (h : bd u e) (k : Nat) : (u.getD k 0).natAbs < 2 ^ e := by
  by_cases q : u.getD k 0 = 0
  · rw [q]
    exact Nat.pow_pos (by decide)
  · exact h _ (mem_getD q)
theorem bd.of_get {u : List Int} {e : Nat} (h : ∀ k, (u.getD k 0).natAbs < 2 ^ e) : bd u e := fun x hx => by
  obtain ⟨k, hk, e1⟩ := List.getElem_of_mem hx
  have := h k
  rw [List.getD_eq_getElem?_getD, List.getElem?_eq_getElem hk] at this
  rw [← e1]
  simpa using this
theorem natAbs_mul_lt {a b : Int} {m n : Nat} (ha : a.natAbs < 2 ^ m) (hb : b.natAbs < 2 ^ n) : (a * b).natAbs < 2 ^ (m + n) := by
  rw [Int.natAbs_mul, Nat.pow_add]
  rcases Nat.eq_zero_or_pos a.natAbs with z | z
  · rw [z, Nat.zero_mul]
    exact Nat.mul_pos (Nat.pow_pos (by decide)) (Nat.pow_pos (by decide))
  · exact Nat.lt_of_lt_of_le (Nat.mul_lt_mul_of_pos_left hb z) (Nat.mul_le_mul_right _ (Nat.le_of_lt ha))
theorem natAbs_add_lt {a b : Int} {m : Nat} (ha : a.natAbs < 2 ^ m) (hb : b.natAbs < 2 ^ m) : (a + b).natAbs < 2 ^ (m + 1) := by
  have := Int.natAbs_add_le a b
  rw [Nat.pow_succ]
  omega
theorem pow_up {a m n : Nat} (h : a < 2 ^ m) (hn : m ≤ n) : a < 2 ^ n := Nat.lt_of_lt_of_le h (Nat.pow_le_pow_right (by decide) hn)
end Mx
/-! a tuple times 1 is itself -/
namespace DL
open PySem PySem.Spec PyProof.Rows L2
section
variable {K : PySem.W.Frag} {B : Bs} {G : List Hp} {L : List Addr} {Γ : List Sl} {k : PyData → Prop}
/-- a list times a count that may be below 0 -/
theorem ro_repN {ds : List PyData} {n : Int} (h0 : -100000 ≤ n) (h1 : n ≤ 100000) (hl : ds.length * n.toNat ≤ 1000000) (hk : k (.list (List.replicate n.toNat ds).flatten)) : ROk K B G L Γ (rMulA K) (.list ds) (.int n) k := by
  refine ROk.r (ROk.r (ROk.l ?_))
  rintro σ H Q v u E d1 d2 q
  cases d2
  cases d1 with
  | @lst a xs _ e1 h2 =>
    refine ⟨a, n, xs, rfl, rfl, hid_sub _ _ _ _ e1, by omega, by omega, ?_, fun p hp => ?_⟩
    · rw [h2.length]
      exact sz_ok hl
    · have g := Go.new (o := .lst (List.replicate n.toNat xs).flatten) E hp
      exact q _ _ _ g (.lst (hid_new (E.newM hp)) ((DnA.reps h2 n.toNat).mono g.sm)) hk
end
end DL
namespace Mx
open PySem DL L2
section
variable {K : PySem.W.Frag} {B : Bs} {G : List Hp} {L : List Addr} {Γ : List Sl} {k : PyData → Prop}
theorem ixf0 {x : Fr} (hk : k (.int x.1)) : ROk K B G L Γ (rIx K) (frD x) (.int 0) k := rok_ixsT (d := .int x.1) rfl hk
theorem ixf1 {x : Fr} (hk : k (.int x.2)) : ROk K B G L Γ (rIx K) (frD x) (.int 1) k := rok_ixsT (d := .int x.2) rfl hk
end

section
variable {K : PySem.W.Frag} {B : Bs} {G : List Hp} {L : List Addr} {Γ : List Sl} {ta tb : TE}
/-- xs * n as a new list -/
theorem en_rep {kl : List PyData → Prop} (h : EvP K B G L Γ ta fun x => EvP K B G L Γ tb fun y => ∃ (ds : List PyData) (n : Int), x = .list ds ∧ y = .int n ∧ -100000 ≤ n ∧ n ≤ 100000 ∧ ds.length * n.toNat ≤ 1000000 ∧ kl (List.replicate n.toNat ds).flatten) :
    EvN K B G L Γ (tOp (rMulA K) ta tb) kl := fun σ H Q E q =>
  h σ H _ E fun v x H1 g1 dx h2 => h2 σ H1 _ g1.env fun u y H2 g2 dy ⟨ds, n, ex, ey, h0, h1, hl, hk⟩ => by
    subst ex
    subst ey
    cases dy
    have dx2 := dx.mono g2.sm
    cases dx2 with
    | @lst a xs _ e1 h3 =>
      refine .inr (.inr (.inl ⟨a, n, xs, rfl, rfl, hid_sub _ _ _ _ e1, by omega, by omega, ?_, fun p hp => ?_⟩))
      · rw [h3.length]
        exact sz_ok hl
      · have g3 := Go.new (o := .lst (List.replicate n.toNat xs).flatten) g2.env hp
        have g12 := g1.trans g2
        exact q p _ _ _ (g12.trans g3) (Go.fresh E g12 hp) upd_same ((DnA.reps h3 n.toNat).mono (hid_keep hp (same_upd hp))) hk
end
end Mx
/-! How many swings are slower than a pace: the changes of sign in the run at it. -/
namespace Mx
open PySem

/-! ### the row at a pace -/
/-- the angle of disc i and the torque ahead of it, at the pace p -/
def rowAt (J K : Nat → Rat) (p : Rat) : Nat → Rat × Rat
  | 0 => (1, K 0)
  | i + 1 => ((rowAt J K p i).1 + ((rowAt J K p i).2 - p * J i * (rowAt J K p i).1) / K (i + 1), (rowAt J K p i).2 - p * J i * (rowAt J K p i).1)
def xa (J K : Nat → Rat) (p : Rat) (i : Nat) : Rat := (rowAt J K p i).1
def ya (J K : Nat → Rat) (p : Rat) (i : Nat) : Rat := (rowAt J K p i).2
theorem ya_succ (J K : Nat → Rat) (p : Rat) (i : Nat) : ya J K p (i + 1) = ya J K p i - p * J i * xa J K p i := rfl
theorem xa_succ (J K : Nat → Rat) (p : Rat) (i : Nat) : xa J K p (i + 1) = xa J K p i + ya J K p (i + 1) / K (i + 1) := rfl
/-- the end of n + 1 discs -/
def ea (J K : Nat → Rat) (p : Rat) (n : Nat) : Rat := ya J K p (n + 1) + K (n + 1) * xa J K p n

/-- a polynomial's first n powers at p -/
def fev (f : Nat → Rat) (p : Rat) : Nat → Rat
  | 0 => 0
  | n + 1 => fev f p n + f n * p ^ n
theorem fev_congr {f g : Nat → Rat} {p : Rat} (h : ∀ k, f k = g k) : ∀ n, fev f p n = fev g p n
  | 0 => rfl
  | n + 1 => by
    unfold fev
    rw [fev_congr h n, h n]
theorem fev_head {f : Nat → Rat} {p : Rat} : ∀ n, fev f p (n + 1) = f 0 + p * fev (fun k => f (k + 1)) p n
  | 0 => by
    show fev f p 0 + f 0 * p ^ 0 = f 0 + p * 0
    show 0 + f 0 * p ^ 0 = f 0 + p * 0
    rw [Rat.pow_zero]
    grind
  | n + 1 => by
    show fev f p (n + 1) + f (n + 1) * p ^ (n + 1) = f 0 + p * (fev (fun k => f (k + 1)) p n + f (n + 1) * p ^ n)
    rw [fev_head n, Rat.pow_succ]
    grind
/-! ### a row of whole numbers at a fraction, scaled -/
def hor (t b : Int) : List Int → Int
  | [] => 0
  | x :: xs => hor t b xs * t + x * b ^ xs.length
theorem hor_eq {t b : Int} (hb : b ≠ 0) : ∀ (u : List Int), (b : Rat) * (hor t b u : Int) = (b : Rat) ^ u.length * fev (fun k => ((u.getD k 0 : Int) : Rat)) ((t : Rat) / (b : Rat)) u.length
  | [] => by
    show (b : Rat) * ((0 : Int) : Rat) = _ * 0
    have : ((0 : Int) : Rat) = 0 := rfl
    grind
  | x :: xs => by
    have ih := hor_eq (t := t) hb xs
    have nb := ratInt_ne hb
    rw [List.length_cons, fev_head]
    show (b : Rat) * ((hor t b xs * t + x * b ^ xs.length : Int) : Rat) = _
    rw [Rat.intCast_add, Rat.intCast_mul, Rat.intCast_mul, Rat.intCast_pow, Rat.pow_succ]
    have e : fev (fun k => (((x :: xs).getD (k + 1) 0 : Int) : Rat)) ((t : Rat) / (b : Rat)) xs.length = fev (fun k => ((xs.getD k 0 : Int) : Rat)) ((t : Rat) / (b : Rat)) xs.length := fev_congr (fun k => by rw [List.getD_cons_succ]) _
    rw [e]
    show (b : Rat) * ((hor t b xs : Int) * (t : Rat) + x * (b : Rat) ^ xs.length) = (b : Rat) ^ xs.length * b * ((x : Rat) + _)
    grind
def sgn (n : Int) : Int := if 0 < n then 1 else if n < 0 then -1 else 0
end Mx
namespace Mx
open PySem

/-! ### counting changes of sign -/
/-- how often neighbours differ, up to place i -/
def cf (l : List Int) : Nat → Nat
  | 0 => 0
  | i + 1 => cf l i + if l.getD (i + 1) 0 ≠ l.getD i 0 then 1 else 0
/-! ### the phase: how often the sign has changed, and where the row stands since -/
def ph (J K : Nat → Rat) (p : Rat) : Nat → Nat × Rat × Rat
  | 0 => (0, 1, K 0)
  | i + 1 =>
    let s := ph J K p i
    let y := s.2.2 - p * J i * s.2.1
    let x := s.2.1 + y / K (i + 1)
    if x < 0 then (s.1 + 1, -x, -y) else (s.1, x, y)
/-- how many swings of a line of n + 1 discs are slower than p -/
def cnt (J K : Nat → Rat) (p : Rat) (n : Nat) : Nat :=
  let s := ph J K p n
  s.1 + if K (n + 1) * s.2.1 + (s.2.2 - p * J n * s.2.1) < 0 then 1 else 0
/-! ### the count never falls as the pace rises -/
def hp (x y : Rat) : Prop := 0 < x ∨ (x = 0 ∧ y < 0)
def le (s t : Nat × Rat × Rat) : Prop := s.1 < t.1 ∨ (s.1 = t.1 ∧ s.2.1 * t.2.2 - s.2.2 * t.2.1 ≤ 0)
/-! ### none at 0, all beyond a bound -/
theorem mul_div' {Y k : Rat} (hk : 0 < k) : k * (Y / k) = Y := by grind
end Mx
/-! An object that stands for a fraction: made once, read only. -/
namespace DL
open PySem PySem.Spec PyProof.Rows L2
end DL
namespace Mx
open PySem PySem.Spec PyProof.Rows L2 DL
structure PlaceAt (K : PySem.W.Frag) (H : Hp) (a : Addr) (p : Fr) : Prop where
  ex : ∃ (C dx : Addr) (fs : List (Str × V)) (vt vp : V), H a = some (.ins C dx fs) ∧ fs.lookup ("told" : Str) = some vt ∧ fs.lookup ("polynomial" : Str) = some vp ∧ Dn K H vt (frD p) ∧ Dn K H vp (.tuple []) ∧ Cls K C ∧ NoAttr K C "told" ∧ NoAttr K C "polynomial"
theorem PlaceAt.mono {K : PySem.W.Frag} {H H' : Hp} {a : Addr} {p : Fr} (h : PlaceAt K H a p) (s : Same H H') : PlaceAt K H' a p := by
  obtain ⟨C, dx, fs, vt, vp, e, l1, l2, d1, d2, r⟩ := h.ex
  exact ⟨C, dx, fs, vt, vp, s _ _ e, l1, l2, d1.mono s, d2.mono s, r⟩
section
variable {K : PySem.W.Frag} {B : Bs} {G : List Hp} {L : List Addr} {Γ : List Sl} {H H' H2 : Hp} {σ : L2.St} {te tp : TE} {k : PyData → Prop} {pre : PyData → Fr → Prop} {post : PyData → Fr → PyData → Prop} {t : TS}
theorem Go.ext (E : DL.Env K B G L H σ Γ) (s : Same H H') : Go K B G L Γ H H' σ := Go.step E (fun a o _ e => s a o e) fun w hw => by
  obtain ⟨n, b, c, e, q⟩ := E.ws w hw
  exact ⟨n, b, c, s _ _ e, q⟩
theorem Env.raw {i : Nat} {v : V} (E : DL.Env K B G L H σ Γ) (hi : Γ[i]? = some (.raw v)) : σ[i]? = some (some v) := by
  have q := E.sl i _ hi
  have q2 : σ[i]?.join = some v := q
  cases e : σ[i]? with
  | none => rw [e] at q2; cases q2
  | some x =>
    rw [e] at q2
    rw [show x = some v from q2]
theorem st_forRevT {j : Nat} {P : PD} (h : EvP K B G L Γ te fun d => ∃ ds, d = .tuple ds ∧ ∃ I : Nat → List Addr → List Sl → Prop, I 0 L Γ ∧
    (∀ i d' L' Γ' g, i < ds.length → ds[ds.length - 1 - i]? = some d' → I i L' Γ' → StP K B (g :: G) L' (Γ'.set j (.d d')) t (P.inLoop (I (i + 1)))) ∧ ∀ L' Γ', I ds.length L' Γ' → P.nx L' Γ') :
    StP K B G L Γ (tFor (RT.iRevA K te) (gName j) t) P := fun σ H D E M =>
  h σ H _ E fun v d H1 g1 dn ⟨ds, e, I, h0, hs, hd⟩ => by
    subst e
    cases dn with
    | @tup a xs _ e1 h2 =>
      have E1 := g1.env.gpush
      have hl := h2.length
      have sq : ∀ {L' : List Addr} {Γ' : List Sl} {σ' : L2.St} {H' : Hp}, DL.Env K B (hid (L ++ B.M) H1 :: G) L' H' σ' Γ' → SqT K H' a xs := fun E' => Same.sqt (hid_sub _ _) (Same.sqt (E'.gh _ (List.mem_cons_self ..)) e1)
      refine ⟨a, xs, rfl, .inr ⟨Same.sqt (hid_sub _ _) e1, RT.for_ItvT (xs := xs) (fun i σ' H' => ∃ L' Γ', I i L' Γ' ∧ DL.Env K B (hid (L ++ B.M) H1 :: G) L' H' σ' Γ') ⟨L, Γ, h0, E1⟩ ?_ ?_ ?_⟩⟩
      · rintro i σ' H' ⟨L', Γ', _, E'⟩
        exact sq E'
      · rintro i x σ' H' hin hi ⟨L', Γ', hI, E'⟩
        obtain ⟨d', e', dn'⟩ := h2.getV hi
        rw [hl] at e'
        exact hs i d' L' Γ' _ (by omega) e' hI _ H' _ (E'.put j (dn'.mono (E'.gh _ (List.mem_cons_self ..)))) ⟨fun L2 Γ2 σ2 H2 q E2 => ⟨L2, Γ2, q, E2⟩, M.rt, fun L2 Γ2 σ2 H2 q E2 => M.nx _ _ _ _ q E2.gpop, fun L2 Γ2 σ2 H2 q E2 => ⟨L2, Γ2, q, E2⟩⟩
      · rintro σ' H' ⟨L', Γ', hI, E'⟩
        rw [hl] at hI
        exact M.nx _ _ _ _ (hd L' Γ' hI) E'.gpop
end
end Mx
namespace Mx
open PySem
theorem natAbs_pow_lt {b : Int} {m : Nat} (hb : b.natAbs < 2 ^ m) : ∀ n : Nat, (b ^ n).natAbs < 2 ^ (m * n + 1)
  | 0 => by
    rw [Int.pow_zero, Nat.mul_zero]
    decide
  | n + 1 => by
    rw [Int.pow_succ]
    exact pow_up (natAbs_mul_lt (natAbs_pow_lt hb n) hb) (by rw [Nat.mul_succ]; omega)
theorem hor_bd {t b : Int} {m : Nat} (ht : t.natAbs < 2 ^ m) (hb : b.natAbs < 2 ^ m) : ∀ u : List Int, bd u m → (hor t b u).natAbs < 2 ^ ((2 * m + 2) * u.length + 1)
  | [], _ => by
    show (0 : Int).natAbs < 2 ^ _
    exact Nat.pow_pos (by decide)
  | x :: xs, h => by
    have ih := hor_bd ht hb xs fun y hy => h y (List.mem_cons_of_mem _ hy)
    have hx := h x (List.mem_cons_self ..)
    have hp := natAbs_pow_lt hb xs.length
    have e : (2 * m + 2) * (xs.length + 1) = (2 * m + 2) * xs.length + 2 * m + 2 := by rw [Nat.mul_succ]; omega
    have e2 : m * xs.length ≤ (2 * m + 2) * xs.length := Nat.mul_le_mul_right _ (by omega)
    show (hor t b xs * t + x * b ^ xs.length).natAbs < 2 ^ ((2 * m + 2) * (xs.length + 1) + 1)
    rw [e]
    exact pow_up (natAbs_add_lt (m := (2 * m + 2) * xs.length + 1 + m) (natAbs_mul_lt ih ht) (pow_up (natAbs_mul_lt hx hp) (by omega))) (by omega)
end Mx
/-! What the specs of defs share. -/
namespace Mx
open PySem PySem.Spec PyProof.Rows L2 DL
theorem atI_n {α : Type} (xs : List α) (n : Nat) : atI xs (n : Int) = xs[n]? := by
  unfold atI ixN
  by_cases h : n < xs.length
  · rw [if_pos (by omega), if_pos (by omega)]
    simp
  · rw [if_pos (by omega), if_neg (by omega), List.getElem?_eq_none (by omega)]
    rfl
theorem cutD_take (ds : List PyData) {m : Nat} (h : m ≤ ds.length) : DL.cutD ds none (some (m : Int)) = ds.take m := by
  unfold DL.cutD
  rw [HT.sIx_none, HT.sIx_nat, Nat.min_eq_left h]
  rfl
theorem trim_take {ns : List Int} {m : Nat} (hz : ∀ x ∈ ns.drop m, x = 0) (hl : 0 < m → ns.getD (m - 1) 0 ≠ 0) : trim ns = ns.take m := by
  have e1 : trim ns = trim (ns.take m) := by
    unfold trim
    have : ns.reverse = (ns.drop m).reverse ++ (ns.take m).reverse := by rw [← List.reverse_append, List.take_append_drop]
    rw [this, List.dropWhile_append_of_pos]
    intro x hx
    rw [hz x (List.mem_reverse.mp hx)]
    rfl
  rw [e1]
  apply trim_id
  intro z
  rcases Nat.eq_zero_or_pos m with h | h
  · subst h
    simp at z
  · rw [List.getLast?_eq_getElem?, List.length_take] at z
    have hm : m ≤ ns.length := by
      rcases Nat.lt_or_ge ns.length m with q | q
      · exfalso
        exact hl h (Mx.getD_out (by omega))
      · exact q
    rw [Nat.min_eq_left hm, List.getElem?_take_of_lt (by omega)] at z
    apply hl h
    rw [List.getD_eq_getElem?_getD, z]
    rfl
theorem map_getG {α β : Type} {f : α → β} {u : List α} {i : Nat} {d : β} (h : (u.map f)[i]? = some d) : ∃ x, u[i]? = some x ∧ d = f x := by
  rw [List.getElem?_map] at h
  cases e : u[i]? with
  | none => rw [e] at h; cases h
  | some x =>
    rw [e] at h
    exact ⟨x, rfl, (Option.some.inj h).symm⟩
theorem map_get {u : List Int} {i : Nat} {d : PyData} (h : (u.map PyData.int)[i]? = some d) : ∃ x, u[i]? = some x ∧ d = .int x := by
  rw [List.getElem?_map] at h
  cases e : u[i]? with
  | none => rw [e] at h; cases h
  | some x =>
    rw [e] at h
    exact ⟨x, rfl, (Option.some.inj h).symm⟩
theorem map_int_inj : ∀ {u v : List Int}, u.map PyData.int = v.map PyData.int → u = v
  | [], [], _ => rfl
  | [], _ :: _, h => by simp at h
  | _ :: _, [], h => by simp at h
  | x :: xs, y :: ys, h => by
    simp only [List.map_cons, List.cons.injEq, PyData.int.injEq] at h
    rw [h.1, map_int_inj h.2]
theorem lg {x : Int} {m : Nat} (h : x.natAbs < 2 ^ m) : x.natAbs.log2 ≤ m := by
  by_cases z : x.natAbs = 0
  · rw [z]
    exact Nat.zero_le _
  · exact Nat.le_of_lt ((Nat.log2_lt z).mpr h)
theorem mulW_of {x y : Int} {m n : Nat} (hx : x.natAbs < 2 ^ m) (hy : y.natAbs < 2 ^ n) (h : m + n < 1000000) : CMulW x y := by
  have a := lg hx
  have b := lg hy
  unfold CMulW
  omega
def sums (a : Int) (u : List Int) (b : Int) (v : List Int) (i : Nat) : List Int := (List.range (max u.length v.length)).map fun k => a * u.getD k 0 + if k < i then b * v.getD k 0 else 0
theorem sums_at (a : Int) (u : List Int) (b : Int) (v : List Int) (i k : Nat) (h : k < max u.length v.length) : (sums a u b v i)[k]? = some (a * u.getD k 0 + if k < i then b * v.getD k 0 else 0) := by
  unfold sums
  rw [List.getElem?_map, List.getElem?_range h]
  rfl
theorem sums_len (a : Int) (u : List Int) (b : Int) (v : List Int) (i : Nat) : (sums a u b v i).length = max u.length v.length := by simp [sums]
theorem sums_step {a : Int} {u : List Int} {b : Int} {v : List Int} {i : Nat} {y : Int} (hy : v[i]? = some y) : sums a u b v (i + 1) = (sums a u b v i).set i (a * u.getD i 0 + b * y) := by
  have hi : i < v.length := (List.getElem?_eq_some_iff.mp hy).1
  have hv : v.getD i 0 = y := by rw [List.getD_eq_getElem?_getD, hy]; rfl
  apply List.ext_getElem?
  intro k
  by_cases hk : k < max u.length v.length
  · rw [sums_at a u b v (i + 1) k hk]
    by_cases e : k = i
    · subst e
      rw [List.getElem?_set_self (by rw [sums_len]; omega), if_pos (by omega), hv]
    · rw [List.getElem?_set_ne (Ne.symm e), sums_at a u b v i k hk]
      by_cases q : k < i
      · rw [if_pos q, if_pos (by omega)]
      · rw [if_neg q, if_neg (by omega)]
  · rw [List.getElem?_eq_none (by rw [sums_len]; omega), List.getElem?_eq_none (by rw [List.length_set, sums_len]; omega)]
theorem sums_all (a : Int) (u : List Int) (b : Int) (v : List Int) : sums a u b v v.length = comb a u b v := by
  unfold sums comb
  apply List.map_congr_left
  intro k _
  by_cases q : k < v.length
  · rw [if_pos q]
  · rw [if_neg q, getD_out (u := v) (by omega)]
    omega
theorem sums_zero (a : Int) (u : List Int) (b : Int) (v : List Int) : sums a u b v 0 = (u.map fun x => a * x) ++ List.replicate (v.length - u.length) 0 := by
  apply List.ext_getElem?
  intro k
  by_cases hk : k < max u.length v.length
  · rw [sums_at a u b v 0 k hk, if_neg (by omega)]
    by_cases q : k < u.length
    · rw [List.getElem?_append_left (by simpa using q), List.getElem?_map, List.getElem?_eq_getElem q, List.getD_eq_getElem?_getD, List.getElem?_eq_getElem q]
      simp
    · rw [List.getElem?_append_right (by simpa using q), List.getElem?_replicate, if_pos (by simp; omega), getD_out (by omega)]
      simp
  · rw [List.getElem?_eq_none (by rw [sums_len]; omega), List.getElem?_eq_none (by simp; omega)]
theorem gcdL_append : ∀ u v : List Int, gcdL (u ++ v) = Nat.gcd (gcdL u) (gcdL v)
  | [], v => by simp [gcdL]
  | x :: xs, v => by
    simp only [List.cons_append, gcdL]
    rw [gcdL_append xs v, Nat.gcd_assoc]
def rowD (u : List Int) : PyData := .tuple (u.map .int)
theorem frD_inj {x y : Fr} (h : frD x = frD y) : x = y := by
  obtain ⟨a, b⟩ := x
  obtain ⟨c, d⟩ := y
  unfold frD at h
  simp only [PyData.tuple.injEq, List.cons.injEq, PyData.int.injEq] at h
  rw [h.1, h.2.1]
def pol (dd ss : List Fr) (i : Nat) : Nat → Rat := if i < dd.length then tn (jv dd) (jv ss) i else en (jv dd) (jv ss) (dd.length - 1)
structure Rows (dd ss : List Fr) (rows : List (List Int)) : Prop where
  len : rows.length = dd.length + 1
  row : ∀ i r, rows[i]? = some r → ∃ u S, r = prim u ∧ Rel S u (pol dd ss i) ∧ u.length = i + 1 ∧ bd u 1200
def Sm (x : Fr) : Prop := 0 < x.2 ∧ x.1.natAbs < 2 ^ 4000 ∧ x.2.natAbs < 2 ^ 4000
structure RowOk (r : List Fr) (n : Nat) (f : Nat → Rat) : Prop where
  len : r.length = n
  ok : ∀ x ∈ r, FOk x
  at_ : ∀ k, val (r.getD k (0, 1)) = f k
structure PartOk (r : List Fr) (n : Nat) (f : Nat → Rat) : Prop where
  len : r.length = n
  ok : ∀ x ∈ r, FOk x
  at_ : ∀ k, k < n → val (r.getD k (0, 1)) = f k
theorem val_zero : val (0, 1) = 0 := by decide +kernel
theorem PartOk.push {r : List Fr} {n : Nat} {f : Nat → Rat} (h : PartOk r n f) {b : Fr} (hb : FOk b) (hv : val b = f n) : PartOk (r ++ [b]) (n + 1) f := by
  refine ⟨by simp [h.len], fun x hx => ?_, fun k hk => ?_⟩
  · rcases List.mem_append.mp hx with q | q
    · exact h.ok x q
    · rw [List.mem_singleton.mp q]
      exact hb
  · by_cases q : k < n
    · rw [List.getD_eq_getElem?_getD, List.getElem?_append_left (by rw [h.len]; exact q), ← List.getD_eq_getElem?_getD]
      exact h.at_ k q
    · obtain rfl : k = n := by omega
      rw [List.getD_eq_getElem?_getD, List.getElem?_append_right (by rw [h.len]; omega), h.len, Nat.sub_self]
      exact hv
theorem PartOk.row {r : List Fr} {n : Nat} {f : Nat → Rat} (h : PartOk r n f) (hz : ∀ k, n ≤ k → f k = 0) : RowOk r n f := by
  refine ⟨h.len, h.ok, fun k => ?_⟩
  by_cases q : k < n
  · exact h.at_ k q
  · rw [hz k (by omega), List.getD_eq_getElem?_getD, List.getElem?_eq_none (by rw [h.len]; omega)]
    exact val_zero
theorem frD2_inj {x y a b : Fr} (h : [frD x, frD y] = [frD a, frD b]) : x = a ∧ y = b := by
  simp only [List.cons.injEq, and_true] at h
  exact ⟨frD_inj h.1, frD_inj h.2⟩
def Gsm (f : Nat → Rat) : Prop := ∃ S u, Rel S u f ∧ bd u 1200 ∧ S.natAbs < 2 ^ 1200
theorem RowOk.smE {r : List Fr} {n : Nat} {f : Nat → Rat} (h : RowOk r n f) {e : Nat} (he : e ≤ 4000) (g : ∃ S u, Rel S u f ∧ bd u e ∧ S.natAbs < 2 ^ e) : ∀ a ∈ r, Sm a := fun a ha => by
  obtain ⟨S, u, rl, bu, bS⟩ := g
  obtain ⟨k, hk, e1⟩ := List.getElem_of_mem ha
  have v := h.at_ k
  rw [List.getD_eq_getElem?_getD, List.getElem?_eq_getElem hk] at v
  have v2 : val a = f k := by rw [← e1]; exact v
  have f1 := h.ok a ha
  obtain ⟨s1, s2, _⟩ := f1.small (u := u.getD k 0) rl.pos (by
    rw [v2, rl.at_ k]
    grind)
  exact ⟨f1.1, pow_up (Nat.lt_of_le_of_lt s1 (bu.get k)) he, pow_up (Nat.lt_of_le_of_lt s2 bS) he⟩
theorem RowOk.sm {r : List Fr} {n : Nat} {f : Nat → Rat} (h : RowOk r n f) (g : Gsm f) : ∀ a ∈ r, Sm a := h.smE (e := 1200) (by decide) g
theorem rel_mul {S : Int} {u : List Int} {f : Nat → Rat} (r : Rel S u f) {p q : Int} (hq : 0 < q) : Rel (S * q) (u.map fun x => p * x) (fun k => f k * ((p : Rat) / (q : Rat))) := by
  refine ⟨Int.mul_pos r.pos hq, fun k => ?_⟩
  have e : (u.map fun x => p * x).getD k 0 = p * u.getD k 0 := by
    by_cases h : k < u.length
    · simp [List.getD_eq_getElem?_getD, h]
    · simp [List.getD_eq_getElem?_getD, h]
  rw [e, Rat.intCast_mul, Rat.intCast_mul, r.at_ k]
  have := ratInt_ne (a := q) (by omega)
  grind
theorem Gsm.mul {f : Nat → Rat} (g : Gsm f) {p q : Int} (hq : 0 < q) (hp1 : p.natAbs < 2 ^ 64) (hq1 : q.natAbs < 2 ^ 64) : ∃ S u, Rel S u (fun k => f k * ((p : Rat) / (q : Rat))) ∧ bd u 1264 ∧ S.natAbs < 2 ^ 1264 := by
  obtain ⟨S, u, r, bu, bS⟩ := g
  refine ⟨_, _, rel_mul r hq, fun x hx => ?_, natAbs_mul_lt bS hq1⟩
  obtain ⟨y, hy, rfl⟩ := List.mem_map.mp hx
  exact pow_up (natAbs_mul_lt hp1 (bu y hy)) (by decide)
theorem RowOk.congr {r : List Fr} {n m : Nat} {f g : Nat → Rat} (h : RowOk r n f) (e : n = m) (hf : ∀ k, f k = g k) : RowOk r m g := ⟨by rw [← e]; exact h.len, h.ok, fun k => by rw [← hf k]; exact h.at_ k⟩
theorem fok_one : FOk (1, 1) := ⟨by decide, by decide⟩
theorem Rows.same {dd ss dd2 ss2 : List Fr} {a b : List (List Int)} (ha : Rows dd ss a) (hb : Rows dd2 ss2 b) (hl : dd2.length = dd.length) (hp : ∀ j, j ≤ dd.length → ∃ p q : Int, 0 < p ∧ 0 < q ∧ ∀ k, (q : Rat) * pol dd2 ss2 j k = p * pol dd ss j k) : b = a := by
  have la := ha.len
  have lb := hb.len
  apply List.ext_getElem?
  intro j
  by_cases hj : j ≤ dd.length
  · have h1 : a[j]? = some a[j] := List.getElem?_eq_getElem (by omega)
    have h2 : b[j]? = some b[j] := List.getElem?_eq_getElem (by omega)
    rw [h1, h2]
    obtain ⟨u, S, e1, r1, l1, _⟩ := ha.row j _ h1
    obtain ⟨v, T, e2, r2, l2, _⟩ := hb.row j _ h2
    rw [e1, e2]
    congr 1
    obtain ⟨p, q, hp0, hq0, hpq⟩ := hp j hj
    refine prim_eq (a := S * q) (b := T * p) (Int.mul_pos r1.pos hq0) (Int.mul_pos r2.pos hp0) (by omega) fun k => ?_
    have a1 := r1.at_ k
    have a2 := r2.at_ k
    have a3 := hpq k
    have : ((S * q * v.getD k 0 : Int) : Rat) = ((T * p * u.getD k 0 : Int) : Rat) := by
      rw [Rat.intCast_mul, Rat.intCast_mul, Rat.intCast_mul, Rat.intCast_mul, a1, a2]
      grind
    exact Rat.intCast_inj.mp this
  · rw [List.getElem?_eq_none (by omega), List.getElem?_eq_none (by omega)]
theorem Rows.uniq {dd ss : List Fr} {a b : List (List Int)} (ha : Rows dd ss a) (h : LN dd ss) (hb : Rows dd ss b) : b = a := ha.same hb rfl fun j _ => ⟨1, 1, by decide, by decide, fun k => rfl⟩
structure Sh (ws : List (List Int)) : Prop where
  len : ws.length ≤ 9
  row : ∀ w ∈ ws, w.length ≤ 9 ∧ bd w 1200
theorem Rows.sh {dd ss : List Fr} {ws : List (List Int)} (h : Rows dd ss ws) (h8 : dd.length ≤ 8) : Sh ws := by
  have hl := h.len
  refine ⟨by omega, fun w hw => ?_⟩
  obtain ⟨j, hj, e⟩ := List.getElem_of_mem hw
  obtain ⟨u, S, e1, r1, l1, b1⟩ := h.row j w (by rw [List.getElem?_eq_getElem hj, e])
  refine ⟨by rw [e1, prim_len]; omega, ?_⟩
  rw [e1]
  exact bd.of_get fun k => Nat.lt_of_le_of_lt (prim_abs u k) (b1.get k)
theorem Rows.first {dd ss : List Fr} {ws : List (List Int)} (R : Rows dd ss ws) (h : LN dd ss) : ∃ w, ws[0]? = some w ∧ w = [1] := by
  have hl := R.len
  refine ⟨ws[0], List.getElem?_eq_getElem (by omega), ?_⟩
  obtain ⟨u, S, e, r, l, b⟩ := R.row 0 ws[0] (List.getElem?_eq_getElem (by omega))
  rw [e]
  match u, l with
  | [x], _ =>
    have ld := r.at_ 0
    have n1 := h.c1
    have p0 : pol dd ss 0 0 = 1 := by
      unfold pol
      rw [if_pos (by omega)]
      rfl
    rw [p0] at ld
    have hx : x = S := by
      apply Rat.intCast_inj.mp
      have : (([x] : List Int).getD 0 0) = x := rfl
      rw [this] at ld
      rw [ld]
      grind
    have hS := r.pos
    subst hx
    show [x / ((Nat.gcd x.natAbs 0 : Nat) : Int)] = [1]
    rw [Nat.gcd_zero_right, show ((x.natAbs : Nat) : Int) = x by omega, Int.ediv_self (by omega)]
theorem rowD_inj {u v : List Int} (h : rowD u = rowD v) : u = v := by
  unfold rowD at h
  injection h with h
  exact map_int_inj h
end Mx
namespace Mx
open PySem PySem.Spec PyProof.Rows L2 DL
section
variable {K : PySem.W.Frag} {B : Bs} {G : List Hp} {L : List Addr} {Γ : List Sl} {ta tb : TE}
end

/-! ### how great the parts of a fraction get -/
def GS (e : Nat) (v : Rat) : Prop := ∃ a b : Int, 0 < b ∧ v * (b : Rat) = (a : Rat) ∧ a.natAbs < 2 ^ e ∧ b.natAbs < 2 ^ e
theorem GS.fr {x : Fr} {e : Nat} (g : GS e (val x)) (h : FOk x) : x.1.natAbs < 2 ^ e ∧ x.2.natAbs < 2 ^ e := by
  obtain ⟨a, b, hb, e1, ha, hb2⟩ := g
  have := h.small hb e1
  exact ⟨Nat.lt_of_le_of_lt this.1 ha, Nat.lt_of_le_of_lt this.2.1 hb2⟩
theorem GS.sm {x : Fr} {e : Nat} (g : GS e (val x)) (h : FOk x) (he : e ≤ 4000) : Sm x := ⟨h.1, pow_up (g.fr h).1 he, pow_up (g.fr h).2 he⟩
theorem GS.up {e f : Nat} {v : Rat} (g : GS e v) (h : e ≤ f) : GS f v := by
  obtain ⟨a, b, hb, e1, ha, hb2⟩ := g
  exact ⟨a, b, hb, e1, pow_up ha h, pow_up hb2 h⟩
theorem val_mul {x : Fr} (h : 0 < x.2) : val x * ((x.2 : Int) : Rat) = (x.1 : Rat) := by
  have := ratInt_ne (a := x.2) (by omega)
  unfold val
  grind
theorem GS.of {x : Fr} {e : Nat} (h : 0 < x.2) (h1 : x.1.natAbs < 2 ^ e) (h2 : x.2.natAbs < 2 ^ e) : GS e (val x) := ⟨x.1, x.2, h, val_mul h, h1, h2⟩
theorem GS.mul {e f : Nat} {u v : Rat} (g : GS e u) (h : GS f v) : GS (e + f) (u * v) := by
  obtain ⟨a, b, hb, e1, ha, hb2⟩ := g
  obtain ⟨c, d, hd, e2, hc, hd2⟩ := h
  refine ⟨a * c, b * d, Int.mul_pos hb hd, ?_, natAbs_mul_lt ha hc, natAbs_mul_lt hb2 hd2⟩
  rw [Rat.intCast_mul, Rat.intCast_mul, ← e1, ← e2]
  grind
theorem GS.add {e f : Nat} {u v : Rat} (g : GS e u) (h : GS f v) : GS (e + f + 1) (u + v) := by
  obtain ⟨a, b, hb, e1, ha, hb2⟩ := g
  obtain ⟨c, d, hd, e2, hc, hd2⟩ := h
  refine ⟨a * d + b * c, b * d, Int.mul_pos hb hd, ?_, natAbs_add_lt (natAbs_mul_lt ha hd2) (natAbs_mul_lt hb2 hc), pow_up (natAbs_mul_lt hb2 hd2) (by omega)⟩
  rw [Rat.intCast_add, Rat.intCast_mul, Rat.intCast_mul, Rat.intCast_mul, ← e1, ← e2]
  grind
theorem pos_num {v : Rat} {a b : Int} (hv : 0 < v) (hb : 0 < b) (e : v * (b : Rat) = (a : Rat)) : 0 < a := by
  have := Rat.mul_pos hv (ratInt_pos hb)
  rw [e] at this
  exact Rat.intCast_pos.mp this
theorem GS.div {e f : Nat} {u v : Rat} (g : GS e u) (h : GS f v) (hv : 0 < v) : GS (e + f) (u / v) := by
  obtain ⟨a, b, hb, e1, ha, hb2⟩ := g
  obtain ⟨c, d, hd, e2, hc, hd2⟩ := h
  have hc0 := pos_num hv hd e2
  refine ⟨a * d, b * c, Int.mul_pos hb hc0, ?_, natAbs_mul_lt ha hd2, natAbs_mul_lt hb2 hc⟩
  rw [Rat.intCast_mul, Rat.intCast_mul, ← e1, ← e2]
  grind
/-- two numbers over one denominator -/
def G2 (e : Nat) (t a : Rat) : Prop := ∃ S T A : Int, 0 < S ∧ t * (S : Rat) = (T : Rat) ∧ a * (S : Rat) = (A : Rat) ∧ S.natAbs < 2 ^ e ∧ T.natAbs < 2 ^ e ∧ A.natAbs < 2 ^ e
theorem G2.l {e : Nat} {t a : Rat} (g : G2 e t a) : GS e t := by
  obtain ⟨S, T, A, s0, h1, h2, h3, h4, h5⟩ := g
  exact ⟨T, S, s0, h1, h4, h3⟩
theorem G2.r {e : Nat} {t a : Rat} (g : G2 e t a) : GS e a := by
  obtain ⟨S, T, A, s0, h1, h2, h3, h4, h5⟩ := g
  exact ⟨A, S, s0, h2, h5, h3⟩
theorem natAbs_sub_lt {a b : Int} {m : Nat} (ha : a.natAbs < 2 ^ m) (hb : b.natAbs < 2 ^ m) : (a - b).natAbs < 2 ^ (m + 1) := by
  rw [Int.sub_eq_add_neg]
  exact natAbs_add_lt ha (by rw [Int.natAbs_neg]; exact hb)
theorem G2.less {e f : Nat} {t a x : Rat} (g : G2 e t a) (h : GS f x) : G2 (e + f + 1) (t - x * a) a := by
  obtain ⟨S, T, A, s0, h1, h2, h3, h4, h5⟩ := g
  obtain ⟨c, d, hd, e2, hc, hd2⟩ := h
  refine ⟨S * d, T * d - A * c, A * d, Int.mul_pos s0 hd, ?_, ?_, pow_up (natAbs_mul_lt h3 hd2) (by omega), natAbs_sub_lt (natAbs_mul_lt h4 hd2) (natAbs_mul_lt h5 hc), pow_up (natAbs_mul_lt h5 hd2) (by omega)⟩
  · rw [Rat.intCast_sub, Rat.intCast_mul, Rat.intCast_mul, Rat.intCast_mul, ← h1, ← h2, ← e2]
    grind
  · rw [Rat.intCast_mul, Rat.intCast_mul, ← h2]
    grind
theorem G2.more {e f : Nat} {t a k : Rat} (g : G2 e t a) (h : GS f k) (hk : 0 < k) : G2 (e + f + 1) t (a + t / k) := by
  obtain ⟨S, T, A, s0, h1, h2, h3, h4, h5⟩ := g
  obtain ⟨c, d, hd, e2, hc, hd2⟩ := h
  have hc0 := pos_num hk hd e2
  refine ⟨S * c, T * c, A * c + T * d, Int.mul_pos s0 hc0, ?_, ?_, pow_up (natAbs_mul_lt h3 hc) (by omega), pow_up (natAbs_mul_lt h4 hc) (by omega), natAbs_add_lt (natAbs_mul_lt h5 hc) (natAbs_mul_lt h4 hd2)⟩
  · rw [Rat.intCast_mul, Rat.intCast_mul, ← h1]
    grind
  · rw [Rat.intCast_add, Rat.intCast_mul, Rat.intCast_mul, Rat.intCast_mul, ← h1, ← h2, ← e2]
    grind

/-! ### the row by fractions -/
/-! ### a pace beyond all swings -/
def fs (J K : Nat → Rat) : Nat → Rat
  | 0 => 1
  | i + 1 => fs J K i + 2 * ((K i + K (i + 1)) / J i)
/-! ### signs -/
def live (l : List Int) : List Int := (l.filter (· ≠ 0)).map sgn
end Mx
namespace Mx
open PySem PySem.Spec PyProof.Rows L2 DL
/-! ### none and all slower: the signs of the row -/
/-! ### the quotient of a shape -/
/-- twists are told by w (k + 1) - w k, turns by w (k + 1) -/
def kf (K w : Nat → Rat) : Nat → Rat
  | 0 => 0
  | k + 1 => kf K w k + K k * ((w (k + 1) - w k) * (w (k + 1) - w k))
def jf (J u : Nat → Rat) : Nat → Rat
  | 0 => 0
  | k + 1 => jf J u k + J k * (u k * u k)
theorem prod_zero {a b : Rat} (ha : a ≠ 0) (h : a * b = 0) : b = 0 := by grind
theorem pic_id {K t u t' u' : Rat} (h1 : t ≠ 0) (h2 : t' ≠ 0) : K * (t' - t) / t * (u * u) + K * ((u' - u) * (u' - u)) = K * (t' - t) / t' * (u' * u') + K * (t * t') * ((u' / t' - u / t) * (u' / t' - u / t)) := by
  grind
/-- the rest of the form when the last turn's share is taken out -/
def rest (J K : Nat → Rat) (p : Rat) (u w : Nat → Rat) (i : Nat) : Rat := kf K w (i + 1) - p * jf J u i - ya J K p i / xa J K p i * (u i * u i)
theorem rest_step {J K u w : Nat → Rat} {p : Rat} {i : Nat} (hw : ∀ k, k ≤ i + 1 → w (k + 1) = u k) (h1 : xa J K p i ≠ 0) (h2 : xa J K p (i + 1) ≠ 0) (hk : 0 < K (i + 1)) :
    rest J K p u w (i + 1) = rest J K p u w i + K (i + 1) * (xa J K p i * xa J K p (i + 1)) * ((u (i + 1) / xa J K p (i + 1) - u i / xa J K p i) * (u (i + 1) / xa J K p (i + 1) - u i / xa J K p i)) := by
  have e1 : kf K w (i + 1 + 1) = kf K w (i + 1) + K (i + 1) * ((u (i + 1) - u i) * (u (i + 1) - u i)) := by
    show kf K w (i + 1) + K (i + 1) * ((w (i + 1 + 1) - w (i + 1)) * (w (i + 1 + 1) - w (i + 1))) = _
    rw [hw (i + 1) (Nat.le_refl _), hw i (by omega)]
  have e2 : jf J u (i + 1) = jf J u i + J i * (u i * u i) := rfl
  have e3 := ya_succ J K p i
  have e4 := xa_succ J K p i
  have ety : ya J K p (i + 1) = K (i + 1) * (xa J K p (i + 1) - xa J K p i) := by
    rw [e4]
    have := mul_div' (Y := ya J K p (i + 1)) hk
    grind
  have e5 : ya J K p i = K (i + 1) * (xa J K p (i + 1) - xa J K p i) + p * J i * xa J K p i := by
    rw [← ety, e3]
    grind
  unfold rest
  rw [e1, e2, ety, e5]
  have id := pic_id (K := K (i + 1)) (u := u i) (u' := u (i + 1)) h1 h2
  have sp : (K (i + 1) * (xa J K p (i + 1) - xa J K p i) + p * J i * xa J K p i) / xa J K p i = K (i + 1) * (xa J K p (i + 1) - xa J K p i) / xa J K p i + p * J i := by
    grind
  rw [sp]
  grind
/-! ### the pivots of the table -/
def pv (J K : Nat → Rat) (p : Rat) : Nat → Rat
  | 0 => K 0 + K 1 - p * J 0
  | i + 1 => K (i + 1) + K (i + 2) - p * J (i + 1) - K (i + 1) * K (i + 1) / pv J K p i
end Mx
/-! Counting in a list, a test by None, a name for an object. -/
namespace Mx
open PySem PySem.Spec PyProof.Rows L2 DL
section
variable {K : PySem.W.Frag} {B : Bs} {G : List Hp} {L : List Addr} {Γ : List Sl} {H H' : Hp} {σ : L2.St} {te ta : TE} {k : PyData → Prop} {u : TS} {P : PD}
theorem ev_notN (h : EvP K B G L Γ te fun d => k (.bool (!isNoneD d))) : EvP K B G L Γ (tNotN te) k := fun σ H Q E q =>
  h σ H _ E fun v d H1 g1 dn hk => by
    have e : decide (v = V.non) = isNoneD d := by cases dn <;> simp [isNoneD]
    show Q (.bl (!decide (v = V.non))) H1
    rw [e]
    exact q _ _ H1 g1 (.bl _) hk
end
/-- turns by places: 0 ahead of the first and behind the last -/
def uv (us : List Int) (k : Nat) : Rat := ((us.getD k 0 : Int) : Rat)
def wv (us : List Int) (k : Nat) : Rat := (((0 :: us).getD k 0 : Int) : Rat)
/-- turns that are small -/
structure Turns (us : List Int) (c : Nat) : Prop where
  len : us.length = c
  sm : ∀ x ∈ us, -3 ≤ x ∧ x ≤ 3
  ne : ∃ x ∈ us, x ≠ 0
theorem Turns.get {us : List Int} {c : Nat} (h : Turns us c) (k : Nat) : -3 ≤ us.getD k 0 ∧ us.getD k 0 ≤ 3 := by
  by_cases q : k < us.length
  · rw [List.getD_eq_getElem?_getD, List.getElem?_eq_getElem q]
    exact h.sm _ (List.getElem_mem q)
  · rw [getD_out (by omega)]
    decide
theorem Turns.getW {us : List Int} {c : Nat} (h : Turns us c) (k : Nat) : -3 ≤ (0 :: us).getD k 0 ∧ (0 :: us).getD k 0 ≤ 3 := by
  cases k with
  | zero => exact ⟨by show (-3 : Int) ≤ 0; decide, by show (0 : Int) ≤ 3; decide⟩
  | succ k => exact h.get k
theorem Turns.some {us : List Int} {c : Nat} (h : Turns us c) : ∃ j, j < c ∧ uv us j ≠ 0 := by
  obtain ⟨x, hx, ne⟩ := h.ne
  obtain ⟨j, hj, e⟩ := List.getElem_of_mem hx
  refine ⟨j, by rw [← h.len]; exact hj, ?_⟩
  unfold uv
  rw [List.getD_eq_getElem?_getD, List.getElem?_eq_getElem hj]
  show ((us[j] : Int) : Rat) ≠ 0
  rw [e]
  exact ratInt_ne ne
/-- rows of pivots -/
structure PivAt (dd ss : List Fr) (p : Fr) (i : Nat) (ps : List Fr) : Prop where
  len : ps.length = i
  ok : ∀ j, j < i → FOk (ps.getD j (0, 1)) ∧ (ps.getD j (0, 1)).1 ≠ 0 ∧ val (ps.getD j (0, 1)) = pv (jv dd) (jv ss) (val p) j
theorem PivAt.ne {dd ss : List Fr} {p : Fr} {i : Nat} {ps : List Fr} (h : PivAt dd ss p i ps) : ∀ j, j < i → pv (jv dd) (jv ss) (val p) j ≠ 0 := fun j hj => by
  obtain ⟨a, b, c⟩ := h.ok j hj
  rw [← c]
  intro z
  exact b ((val_pos a.1).2.2.mp z)
theorem PivAt.push {dd ss : List Fr} {p : Fr} {i : Nat} {ps : List Fr} (h : PivAt dd ss p i ps) {b : Fr} (f : FOk b) (n : b.1 ≠ 0) (v : val b = pv (jv dd) (jv ss) (val p) i) : PivAt dd ss p (i + 1) (ps ++ [b]) := by
  refine ⟨by simp [h.len], fun j hj => ?_⟩
  by_cases q : j < i
  · rw [List.getD_eq_getElem?_getD, List.getElem?_append_left (by rw [h.len]; exact q), ← List.getD_eq_getElem?_getD]
    exact h.ok j q
  · obtain rfl : j = i := by omega
    rw [List.getD_eq_getElem?_getD, List.getElem?_append_right (by rw [h.len]; omega), h.len, Nat.sub_self]
    exact ⟨f, n, v⟩
end Mx
namespace Mx
open PySem PySem.Spec PyProof.Rows L2 DL
theorem GS.neg {e : Nat} {v : Rat} (g : GS e v) : GS e (-v) := by
  obtain ⟨a, b, hb, e1, ha, hb2⟩ := g
  refine ⟨-a, b, hb, ?_, by rw [Int.natAbs_neg]; exact ha, hb2⟩
  rw [Rat.intCast_neg, ← e1]
  grind
theorem fok_zero : FOk (0, 1) := ⟨by decide, by decide⟩
section
variable {K : PySem.W.Frag} {B : Bs} {G : List Hp} {L : List Addr} {Γ : List Sl} {t : TS} {P : PD}
/-- what two ways of a statement have in common -/
theorem st_join (J : List Addr → List Sl → Prop) (h : StP K B G L Γ t { P with nx := J }) (hJ : ∀ L2 Γ2, J L2 Γ2 → P.nx L2 Γ2) : StP K B G L Γ t P := fun σ H D E M =>
  h σ H D E ⟨fun L2 Γ2 σ2 H2 q E2 => M.nx _ _ _ _ (hJ _ _ q) E2, M.rt, M.bk, M.ct⟩
end
theorem at_last {α : Type} (xs : List α) {n : Nat} (h : xs.length = n + 1) : atI xs (-1) = xs[n]? := by
  unfold atI ixN
  rw [if_neg (by decide)]
  rw [if_pos (by omega)]
  show xs[_]? = _
  congr 1
  omega
end Mx
namespace Mx
open PySem PySem.Spec PyProof.Rows L2 DL
/-! ### a disc held: the counts of both parts -/
/-! ### parts and changes of lines -/
theorem LN.ahead {dd ss : List Fr} (h : LN dd ss) {k : Nat} (h0 : 0 < k) (hk : k < dd.length) : LN (dd.take k) (ss.take (k + 1)) := by
  have hl := h.len
  have n8 := h.c8
  refine ⟨by rw [List.length_take]; omega, by rw [List.length_take]; omega, by rw [List.length_take, List.length_take]; omega, fun x hx => h.dok x (List.mem_of_mem_take hx), fun x hx => h.sok x (List.mem_of_mem_take hx), fun i x hi hic hx => ?_⟩
  rw [List.length_take] at hic
  rw [List.getElem?_take, if_pos (by omega)] at hx
  exact h.inn i x hi (by omega) hx
theorem LN.behind {dd ss : List Fr} (h : LN dd ss) {k : Nat} (hk : k + 1 < dd.length) : LN (dd.drop (k + 1)) (ss.drop (k + 1)) := by
  have hl := h.len
  have n8 := h.c8
  refine ⟨by rw [List.length_drop]; omega, by rw [List.length_drop]; omega, by rw [List.length_drop, List.length_drop]; omega, fun x hx => h.dok x (List.mem_of_mem_drop hx), fun x hx => h.sok x (List.mem_of_mem_drop hx), fun i x hi hic hx => ?_⟩
  rw [List.length_drop] at hic
  rw [List.getElem?_drop] at hx
  exact h.inn (k + 1 + i) x (by omega) (by omega) hx
/-! ### what can be shown -/
def Sho (e c : Nat) (d : PyData) : Prop := d.showable = true ∧ d.hasDict = false ∧ d.depth ≤ e ∧ cost d ≤ c
theorem sho_up {e c e' c' : Nat} {d : PyData} (h : Sho e c d) (he : e ≤ e') (hc : c ≤ c') : Sho e' c' d := ⟨h.1, h.2.1, Nat.le_trans h.2.2.1 he, Nat.le_trans h.2.2.2 hc⟩
theorem sho_int {i : Int} (h : i.natAbs < 2 ^ 1900) : Sho 0 1921 (.int i) := by
  refine ⟨?_, rfl, Nat.le_refl _, Nat.le_refl _⟩
  show decide (i.natAbs.log2 < 1920) = true
  have := lg h
  exact decide_eq_true (by omega)
theorem sho_all {e c : Nat} : ∀ {ds : List PyData}, (∀ d ∈ ds, Sho e c d) → PyData.showableAll ds = true ∧ PyData.hasDictAll ds = false ∧ PyData.depthAll ds ≤ e ∧ costAll ds ≤ (c + 2) * ds.length
  | [], _ => by simp [PyData.showableAll, PyData.hasDictAll, PyData.depthAll, costAll]
  | d :: ds, h => by
    obtain ⟨a, b, c', d'⟩ := sho_all (ds := ds) fun x hx => h x (List.mem_cons_of_mem _ hx)
    obtain ⟨p, q, r, s⟩ := h d (List.mem_cons_self ..)
    simp only [PyData.showableAll, PyData.hasDictAll, PyData.depthAll, costAll, a, b, p, q, List.length_cons]
    refine ⟨rfl, rfl, by omega, ?_⟩
    rw [Nat.mul_add]
    omega
theorem sho_tup {e c : Nat} {ds : List PyData} (h : ∀ d ∈ ds, Sho e c d) : Sho (e + 1) ((c + 2) * ds.length + 3) (.tuple ds) := by
  obtain ⟨a, b, c', d'⟩ := sho_all h
  simp only [Sho, PyData.showable, PyData.hasDict, PyData.depth, cost]
  exact ⟨a, b, by omega, by omega⟩
theorem sho_lst {e c : Nat} {ds : List PyData} (h : ∀ d ∈ ds, Sho e c d) : Sho (e + 1) ((c + 2) * ds.length + 3) (.list ds) := by
  obtain ⟨a, b, c', d'⟩ := sho_all h
  simp only [Sho, PyData.showable, PyData.hasDict, PyData.depth, cost]
  exact ⟨a, b, by omega, by omega⟩
/-! ### slices, sums, being in a list -/
section
variable {K : PySem.W.Frag} {B : Bs} {G : List Hp} {L : List Addr} {Γ : List Sl} {k : PyData → Prop}
theorem cok_show {d : PyData} {e c : Nat} (h : Sho e c d) (hb : isBox d = true) (he : e < 64) (hc : c ≤ 1000000) (hk : k (.str d.shown)) : COk K B G L Γ (rReprD K) [d] k := cok_repr hb h.1 h.2.1 (Nat.lt_of_le_of_lt h.2.2.1 he) (sz_ok (Nat.le_trans h.2.2.2 hc)) hk
end
end Mx
/-! Slices of rows of fractions; one element otherwise. -/
namespace Mx
open PySem PySem.Spec PyProof.Rows L2 DL
section
variable {K : PySem.W.Frag} {B : Bs} {G : List Hp} {L : List Addr} {Γ : List Sl} {te ta : TE} {k : PyData → Prop}
end
end Mx
/-! Counts of lines beside one another: heavier discs and softer shafts have no fewer slower swings. -/
namespace Mx
/-! ### one number otherwise: one more or less at most -/
end Mx
/-! Calls with some arguments by name, in any order. -/
namespace DL
open PySem PySem.Spec PyProof.Rows L2
def gP (m n : Nat) (js : List Nat) (us ws : List Value) : List Value := if us.length = m ∧ ws.length = n then us ++ js.map (fun j => ws.getD j .none) else []
section
variable {X : Cx} {x : Str} {p pos : Pos} {k : Nat} {f : Addr} {fd : FuncData} {ps ks : List Str} {sp : Sp} {CX : CXT} {E : XK} {tk : TA} {kws : List Keyword} {g : List Value → List Value → List Value} {gV : List V → List V → List V}
end
section
variable {K : PySem.W.Frag} {B : Bs} {G : List Hp} {L : List Addr} {Γ : List Sl} {tr tk : TA} {k : PyData → Prop}
end
end DL
/-! More of lists: list(range(n)), two lists at once, two places at once, xs[::-1], unpacking. -/
namespace DL
open PySem PySem.Spec PyProof.Rows L2
section
variable {K : PySem.W.Frag} {B : Bs} {G : List Hp} {L : List Addr} {Γ : List Sl} {H H' H2 : Hp} {σ : L2.St}
variable {te tf ta tb : TE} {k : PyData → Prop} {P : PD}
theorem ev_revL (h : EvP K B G L Γ te fun d => ∃ ds, d = .list ds ∧ k (.list ds.reverse)) : EvP K B G L Γ (tRevL K te) k := fun σ H Q E q =>
  h σ H _ E fun v d H1 g1 dn ⟨ds, e, hk⟩ => by
    subst e
    cases dn with
    | @lst a xs _ e1 h2 =>
      refine ⟨a, xs, rfl, .inl (.inl (hid_sub _ _ _ _ e1)), fun p hp => ?_⟩
      have g2 := Go.new (o := .lst xs.reverse) g1.env hp
      exact q _ _ _ (g1.trans g2) (.lst (hid_new (g1.env.newM hp)) ((h2.mono g2.sm).rev)) hk
end
end DL
/-! Lines, slots and amounts of the later laws. -/
namespace Mx
open PySem PySem.Spec PyProof.Rows L2 DL
/-- a row of angles, and the end -/
structure AngR (dd ss : List Fr) (p : Fr) (n : Nat) (rs : List Fr) : Prop where
  len : rs.length = n
  ok : ∀ x ∈ rs, FOk x
  inn : ∀ j, j < n → val (rs.getD j (0, 1)) = xa (jv dd) (jv ss) (val p) j
theorem AngR.push {dd ss : List Fr} {p : Fr} {n : Nat} {rs : List Fr} (h : AngR dd ss p n rs) {b : Fr} (hb : FOk b) (hv : val b = xa (jv dd) (jv ss) (val p) n) : AngR dd ss p (n + 1) (rs ++ [b]) := by
  refine ⟨by simp [h.len], fun x hx => ?_, fun j hj => ?_⟩
  · rcases List.mem_append.mp hx with q | q
    · exact h.ok x q
    · rw [List.mem_singleton.mp q]
      exact hb
  · by_cases q : j < n
    · rw [List.getD_eq_getElem?_getD, List.getElem?_append_left (by rw [h.len]; exact q), ← List.getD_eq_getElem?_getD]
      exact h.inn j q
    · obtain rfl : j = n := by omega
      rw [List.getD_eq_getElem?_getD, List.getElem?_append_right (by rw [h.len]; omega), h.len, Nat.sub_self]
      exact hv
theorem AngR.get {dd ss : List Fr} {p : Fr} {n : Nat} {rs : List Fr} (h : AngR dd ss p n rs) {j : Nat} (hj : j < n) : rs[j]? = some (rs.getD j (0, 1)) ∧ FOk (rs.getD j (0, 1)) := by
  have e : rs[j]? = some (rs.getD j (0, 1)) := by
    rw [List.getD_eq_getElem?_getD, List.getElem?_eq_getElem (by rw [h.len]; exact hj)]
    rfl
  exact ⟨e, h.ok _ (List.mem_of_getElem? e)⟩
end Mx
namespace Mx
open PySem PySem.Spec PyProof.Rows L2 DL
/-! ### the product of two shapes -/
def tf (K w v : Nat → Rat) : Nat → Rat
  | 0 => 0
  | k + 1 => tf K w v k + K k * ((w (k + 1) - w k) * (v (k + 1) - v k))
def sf (J u v : Nat → Rat) : Nat → Rat
  | 0 => 0
  | k + 1 => sf J u v k + J k * (u k * v k)
def prd (dd ss : List Fr) (p : Rat) (us vs : List Int) : Rat := tf (jv ss) (wv us) (wv vs) (dd.length + 1) - p * sf (jv dd) (uv us) (uv vs) dd.length
/-- turns that are not great -/
structure Trn (us : List Int) (c : Nat) (b : Int) : Prop where
  len : us.length = c
  sm : ∀ x ∈ us, -b ≤ x ∧ x ≤ b
  nn : 0 ≤ b
theorem Trn.get {us : List Int} {c : Nat} {b : Int} (h : Trn us c b) (k : Nat) : -b ≤ us.getD k 0 ∧ us.getD k 0 ≤ b := by
  by_cases q : k < us.length
  · rw [List.getD_eq_getElem?_getD, List.getElem?_eq_getElem q]
    exact h.sm _ (List.getElem_mem q)
  · rw [getD_out (by omega)]
    have := h.nn
    omega
theorem Trn.getW {us : List Int} {c : Nat} {b : Int} (h : Trn us c b) (k : Nat) : -b ≤ (0 :: us).getD k 0 ∧ (0 :: us).getD k 0 ≤ b := by
  cases k with
  | zero =>
    have := h.nn
    exact ⟨by show -b ≤ 0; omega, by show 0 ≤ b; omega⟩
  | succ k => exact h.get k
theorem Trn.up {us : List Int} {c : Nat} {b e : Int} (h : Trn us c b) (he : b ≤ e) : Trn us c e := ⟨h.len, fun x hx => by have := h.sm x hx; omega, by have := h.nn; omega⟩
/-! ### shapes as data -/
def tupI (us : List Int) : PyData := .tuple (us.map .int)
theorem lay_ints : ∀ r : List Int, PyData.canLayAll0 (r.map .int) = true ∧ PyData.depthAll (r.map .int) ≤ 1 ∧ PyData.hasDictAll (r.map .int) = false
  | [] => by simp [PyData.canLayAll0, PyData.depthAll, PyData.hasDictAll]
  | x :: r => by
    obtain ⟨a, b, c⟩ := lay_ints r
    simp [PyData.canLayAll0, PyData.depthAll, PyData.hasDictAll, PyData.canLay0, PyData.depth, PyData.hasDict, a, c] at b ⊢
    omega
theorem ints_shaped (r : List Int) : SeqAt.shaped (tupI r) = true ∧ (tupI r).hasDict = false := by
  obtain ⟨a, b, c⟩ := lay_ints r
  refine ⟨?_, by simpa [tupI, PyData.hasDict] using c⟩
  unfold SeqAt.shaped tupI
  simp [PyData.canLay0, PyData.depth, a]
  omega
end Mx
/-! A text among texts, isinstance of a text, the least common multiple. -/
namespace DL
open PySem PySem.Spec PyProof.Rows L2
section
variable {K : PySem.W.Frag} {B : Bs} {G : List Hp} {L : List Addr} {Γ : List Sl} {te : TE} {k : PyData → Prop}
end
end DL
namespace Mx
open PySem PySem.Spec PyProof.Rows L2 DL
end Mx
/-! The least common multiple of two or three numbers; a module's constant tuple. -/
namespace DL
open PySem PySem.Spec PyProof.Rows L2
section
open PySem.W
end
section
variable {K : PySem.W.Frag} {B : Bs} {G : List Hp} {L : List Addr} {Γ : List Sl} {te : TE} {k : PyData → Prop}
/-- a module's constant row -/
def CT (K : PySem.W.Frag) (a : Addr) (d : PyData) : Prop := ∀ H : Hp, Dn K H (.ref a) d
theorem ev_ct {a : Addr} {d : PyData} (h : CT K a d) (hk : k d) : EvP K B G L Γ (tC (.ref a)) k := fun σ H Q E q => q _ _ H (Go.refl E) (h _) hk
end
end DL
/-! Comprehensions whose turns are pairs: [.. for x, y in rows]. -/
namespace DL
open PySem PySem.Spec PyProof.Rows L2
section
variable {K : PySem.W.Frag} {B : Bs} {G : List Hp} {L : List Addr} {Γ : List Sl} {H H' : Hp} {σ : L2.St} {tl te : TE} {tt : TT}
end
end DL
/-! What one number of a line does: the table's determinant goes straight in it, and the count changes at most once. -/
namespace Mx
open PySem

/-! ### the table's determinants, by powers of the pace -/
def one0 : Nat → Rat := fun k => if k = 0 then 1 else 0
/-- the determinants of the first i - 1 and of the first i rows -/
def dd2 (J K : Nat → Rat) : Nat → (Nat → Rat) × (Nat → Rat)
  | 0 => (fun _ => 0, one0)
  | i + 1 => ((dd2 J K i).2, fun k => (K i + K (i + 1)) * (dd2 J K i).2 k - J i * sh (dd2 J K i).2 k - K i * K i * (dd2 J K i).1 k)
def dc (J K : Nat → Rat) (i : Nat) : Nat → Rat := (dd2 J K i).2
/-- straight in a number -/
def Af (g : Rat → Nat → Rat) : Prop := ∃ a b : Nat → Rat, ∀ x k, g x k = a k + x * b k
theorem Af.at_ {g : Rat → Nat → Rat} (h : Af g) (x : Rat) (k : Nat) : g x k = g 0 k + x * (g 1 k - g 0 k) := by
  obtain ⟨a, b, e⟩ := h
  rw [e, e, e]
  grind
theorem Af.const (f : Nat → Rat) : Af fun _ => f := ⟨f, fun _ => 0, fun x k => by grind⟩
def upd1 (J : Nat → Rat) (i : Nat) (x : Rat) : Nat → Rat := fun j => if j = i then x else J j
theorem Af.step {c b : Rat → Nat → Rat} (hc : Af c) (hb : Af b) (u v w : Rat) : Af fun x k => u * c x k - v * sh (c x) k - w * b x k := by
  obtain ⟨c1, c2, ec⟩ := hc
  obtain ⟨b1, b2, eb⟩ := hb
  refine ⟨fun k => u * c1 k - v * sh c1 k - w * b1 k, fun k => u * c2 k - v * sh c2 k - w * b2 k, fun x k => ?_⟩
  have hs : sh (c x) k = sh c1 k + x * sh c2 k := by
    cases k with
    | zero => show (0 : Rat) = 0 + x * 0; grind
    | succ k => exact ec x k
  show u * c x k - v * sh (c x) k - w * b x k = _
  rw [hs, ec, eb]
  grind
/-! ### two lines at one pace -/
/-- the torques' and angles' cross product -/
def wr (J K J' K' : Nat → Rat) (p : Rat) (i : Nat) : Rat := ya J' K' p i * xa J K p i - ya J K p i * xa J' K' p i
/-! ### parity -/
theorem alt_two {a b : Nat} (h : 0 < alt a * alt b) : a % 2 = b % 2 := by
  unfold alt at h
  split at h <;> split at h <;> first | omega | exact absurd h (by decide +kernel)
end Mx
/-! The counts on both sides of the turning amount. -/
namespace Mx
open PySem
/-- counts, ends and last angles by the amount in a slot; up: a greater amount makes slower -/
structure Fam (c : Rat → Nat) (E X : Rat → Rat) (up : Bool) : Prop where
  par : ∀ x, 0 < x → E x ≠ 0 → 0 < alt (c x) * E x
  last : ∀ x, 0 < x → E x = 0 → 0 < alt (c x) * X x
  mono : ∀ x y, 0 < x → x ≤ y → (up = true → c x ≤ c y ∧ c y ≤ c x + 1) ∧ (up = false → c y ≤ c x ∧ c x ≤ c y + 1)
  wr : ∀ x y, 0 < x → x < y → (up = true → E y * X x - E x * X y ≤ 0) ∧ (up = false → 0 ≤ E y * X x - E x * X y)
  both : ∀ x y, 0 < x → 0 < y → x ≠ y → E x = 0 → E y = 0 → ∀ u v, 0 < u → 0 < v → c u = c v
theorem mul_pos4 {a b x y : Rat} (h1 : 0 < a * x) (h2 : 0 < b * y) (h : 0 < x * y) : 0 < a * b := by
  have h3 := Rat.mul_pos h1 h2
  rcases Rat.le_total (a := a * b) (b := 0) with q | q
  · exfalso
    have : a * x * (b * y) = (a * b) * (x * y) := by grind
    rw [this] at h3
    have : (a * b) * (x * y) ≤ 0 := by
      have := Rat.mul_nonneg (show (0 : Rat) ≤ -(a * b) by grind) (Rat.le_of_lt h)
      grind
    grind
  · have : a * b ≠ 0 := fun z => by
      have e : a * x * (b * y) = (a * b) * (x * y) := by grind
      rw [e, z] at h3
      grind
    grind
section
variable {c : Rat → Nat} {E X : Rat → Rat} {up : Bool} {a b : Rat} {m : Rat → Rat}
theorem Fam.same (F : Fam c E X up) {x y : Rat} (hx : 0 < x) (hy : 0 < y) (h : 0 < E x * E y) : c x = c y := by
  have ex : E x ≠ 0 := fun z => by rw [z] at h; grind
  have ey : E y ≠ 0 := fun z => by rw [z] at h; grind
  have p := alt_two (mul_pos4 (F.par x hx ex) (F.par y hy ey) h)
  rcases Rat.le_total (a := x) (b := y) with q | q
  · obtain ⟨m1, m2⟩ := F.mono x y hx q
    cases up with
    | true => have := m1 rfl; omega
    | false => have := m2 rfl; omega
  · obtain ⟨m1, m2⟩ := F.mono y x hy q
    cases up with
    | true => have := m1 rfl; omega
    | false => have := m2 rfl; omega
end
/-! ### a line's slot -/
def sJ (J : Nat → Rat) (s : Bool) (i : Nat) (x : Rat) : Nat → Rat := if s then upd1 J i x else J
def sK (K : Nat → Rat) (s : Bool) (i : Nat) (x : Rat) : Nat → Rat := if s then K else upd1 K i x
/-- a line's numbers -/
structure Num (J K : Nat → Rat) (n : Nat) : Prop where
  j : ∀ i, i ≤ n → 0 < J i
  k : ∀ i, 0 < i → i ≤ n → 0 < K i
  k0 : 0 ≤ K 0
  kn : 0 ≤ K (n + 1)
def inner (s : Bool) (i n : Nat) : Prop := s = false ∧ 0 < i ∧ i ≤ n
instance (s : Bool) (i n : Nat) : Decidable (inner s i n) := by unfold inner; infer_instance
theorem Num.put {J K : Nat → Rat} {n : Nat} (h : Num J K n) {s : Bool} {i : Nat} {x : Rat} (hx : 0 < x) : Num (sJ J s i x) (sK K s i x) n := by
  cases s with
  | true =>
    refine ⟨fun j hj => ?_, h.k, h.k0, h.kn⟩
    show 0 < upd1 J i x j
    unfold upd1
    split
    · exact hx
    · exact h.j j hj
  | false =>
    have g : ∀ j, 0 ≤ K j → 0 ≤ upd1 K i x j := fun j hj => by
      unfold upd1
      split
      · exact Rat.le_of_lt hx
      · exact hj
    refine ⟨h.j, fun j a b => ?_, g 0 h.k0, g (n + 1) h.kn⟩
    show 0 < upd1 K i x j
    unfold upd1
    split
    · exact hx
    · exact h.k j a b
/-! ### the end by the amount -/
/-- the determinant with the amount x, by powers of the pace -/
def dS (J K : Nat → Rat) (s : Bool) (i n : Nat) (x : Rat) : Nat → Rat := dc (sJ J s i x) (sK K s i x) (n + 1)
def bS (J K : Nat → Rat) (s : Bool) (i n : Nat) (p : Rat) : Rat := fev (fun k => dS J K s i n 1 k - dS J K s i n 0 k) p (n + 2)
end Mx
/-! Rows of whole numbers: shifted, trimmed, their sizes; a line's table. -/
namespace Mx
open PySem
theorem trim_split (u : List Int) : ∃ m, u = trim u ++ List.replicate m 0 := by
  have e : u.reverse = u.reverse.takeWhile (· == 0) ++ u.reverse.dropWhile (· == 0) := (List.takeWhile_append_dropWhile ..).symm
  refine ⟨(u.reverse.takeWhile (· == 0)).length, ?_⟩
  have z : u.reverse.takeWhile (· == 0) = List.replicate (u.reverse.takeWhile (· == 0)).length 0 := by
    apply List.eq_replicate_iff.mpr
    refine ⟨rfl, fun b hb => ?_⟩
    have := List.all_takeWhile (l := u.reverse) (p := (· == 0))
    have := List.all_eq_true.mp this b hb
    simpa using this
  have e2 := congrArg List.reverse e
  rw [List.reverse_reverse, List.reverse_append] at e2
  unfold trim
  generalize (u.reverse.takeWhile (· == 0)).length = m at z
  rw [z, List.reverse_replicate] at e2
  exact e2
theorem trim_get (u : List Int) (k : Nat) : (trim u).getD k 0 = u.getD k 0 := by
  obtain ⟨m, e⟩ := trim_split u
  conv => rhs; rw [e]
  by_cases h : k < (trim u).length
  · rw [List.getD_eq_getElem?_getD, List.getD_eq_getElem?_getD, List.getElem?_append_left h]
  · rw [getD_out (by omega), List.getD_eq_getElem?_getD, List.getElem?_append_right (by omega), List.getElem?_replicate]
    split <;> rfl
theorem trim_len (u : List Int) : (trim u).length ≤ u.length := by
  obtain ⟨m, e⟩ := trim_split u
  have := congrArg List.length e
  rw [List.length_append] at this
  omega
theorem dropWhile_head {p : Int → Bool} : ∀ l : List Int, ∀ x, (l.dropWhile p).head? = some x → p x = false
  | [], x, h => by simp at h
  | y :: ys, x, h => by
    rw [List.dropWhile_cons] at h
    split at h
    · exact dropWhile_head ys x h
    · rename_i q
      simp at h
      rw [← h]
      simpa using q
theorem trim_last (u : List Int) : (trim u).getLast? ≠ some 0 := by
  intro z
  unfold trim at z
  rw [List.getLast?_reverse] at z
  have := dropWhile_head _ _ z
  simp at this
/-- the same numbers at all places, nothing but the lead last: the same row -/
theorem row_ext {u v : List Int} (hu : u.getLast? ≠ some 0) (hv : v.getLast? ≠ some 0) (h : ∀ k, u.getD k 0 = v.getD k 0) : u = v := by
  have aux : ∀ {u v : List Int}, u.getLast? ≠ some 0 → (∀ k, u.getD k 0 = v.getD k 0) → u.length ≤ v.length := fun {u v} hu h => by
    rcases Nat.lt_or_ge v.length u.length with q | q
    · exfalso
      apply hu
      rw [List.getLast?_eq_getElem?, List.getElem?_eq_getElem (by omega)]
      have := h (u.length - 1)
      rw [getD_out (u := v) (by omega), List.getD_eq_getElem?_getD, List.getElem?_eq_getElem (by omega)] at this
      exact congrArg some this
    · exact q
  have l := Nat.le_antisymm (aux hu h) (aux hv fun k => (h k).symm)
  apply List.ext_getElem l
  intro k h1 h2
  have := h k
  rw [List.getD_eq_getElem?_getD, List.getD_eq_getElem?_getD, List.getElem?_eq_getElem h1, List.getElem?_eq_getElem h2] at this
  exact this

/-! ### sizes by sums -/
def nr (f : Nat → Int) : Nat → Nat
  | 0 => 0
  | n + 1 => nr f n + (f n).natAbs
def nb (u : List Int) (c : Nat) : Prop := ∀ n, nr (fun k => u.getD k 0) n ≤ c
theorem nr_congr {f g : Nat → Int} (h : ∀ k, f k = g k) : ∀ n, nr f n = nr g n
  | 0 => rfl
  | n + 1 => by show nr f n + _ = nr g n + _; rw [nr_congr h n, h n]
theorem nr_lin {f g : Nat → Int} {a b : Int} : ∀ n, nr (fun k => a * f k + b * g k) n ≤ a.natAbs * nr f n + b.natAbs * nr g n
  | 0 => Nat.zero_le _
  | n + 1 => by
    show nr (fun k => a * f k + b * g k) n + (a * f n + b * g n).natAbs ≤ a.natAbs * (nr f n + (f n).natAbs) + b.natAbs * (nr g n + (g n).natAbs)
    have := nr_lin (f := f) (g := g) (a := a) (b := b) n
    have h := Int.natAbs_add_le (a * f n) (b * g n)
    rw [Int.natAbs_mul, Int.natAbs_mul] at h
    rw [Nat.mul_add, Nat.mul_add]
    omega
theorem nb.comb {u v : List Int} {a b : Int} {c d : Nat} (hu : nb u c) (hv : nb v d) : nb (comb a u b v) (a.natAbs * c + b.natAbs * d) := fun n => by
  rw [nr_congr (fun k => comb_get a u b v k) n]
  refine Nat.le_trans (nr_lin n) ?_
  have := Nat.mul_le_mul_left a.natAbs (hu n)
  have := Nat.mul_le_mul_left b.natAbs (hv n)
  omega
theorem nb.trim {u : List Int} {c : Nat} (h : nb u c) : nb (trim u) c := fun n => by
  rw [nr_congr (fun k => trim_get u k) n]
  exact h n
theorem nr_head {f : Nat → Int} : ∀ n, nr f (n + 1) = (f 0).natAbs + nr (fun k => f (k + 1)) n
  | 0 => by show 0 + (f 0).natAbs = (f 0).natAbs + 0; omega
  | n + 1 => by
    show nr f (n + 1) + (f (n + 1)).natAbs = (f 0).natAbs + (nr (fun k => f (k + 1)) n + (f (n + 1)).natAbs)
    rw [nr_head n]
    omega
theorem nb.up {u : List Int} {c d : Nat} (h : nb u c) (q : c ≤ d) : nb u d := fun n => Nat.le_trans (h n) q
theorem nb.get {u : List Int} {c : Nat} (h : nb u c) (k : Nat) : (u.getD k 0).natAbs ≤ c := by
  have := h (k + 1)
  have e : nr (fun k => u.getD k 0) (k + 1) = nr (fun k => u.getD k 0) k + (u.getD k 0).natAbs := rfl
  omega
theorem nb.bd {u : List Int} {c e : Nat} (h : nb u c) (q : c < 2 ^ e) : bd u e := bd.of_get fun k => Nat.lt_of_le_of_lt (h.get k) q
theorem nb.tail {x : Int} {xs : List Int} {c : Nat} (h : nb (x :: xs) c) : ∃ d, nb xs d ∧ x.natAbs + d ≤ c := by
  refine ⟨c - x.natAbs, fun n => ?_, ?_⟩
  · have := h (n + 1)
    rw [nr_head] at this
    have e : nr (fun k => (x :: xs).getD (k + 1) 0) n = nr (fun k => xs.getD k 0) n := nr_congr (fun k => by rw [List.getD_cons_succ]) n
    rw [e] at this
    have e2 : ((x :: xs).getD 0 0) = x := rfl
    rw [e2] at this
    omega
  · have := h.get 0
    have e2 : ((x :: xs).getD 0 0) = x := rfl
    rw [e2] at this
    omega
/-! ### a row at a pace -/
def ev (u : List Int) (x : Rat) : Rat := fev (fun k => ((u.getD k 0 : Int) : Rat)) x u.length
theorem hor_ev {t b : Int} (hb : 0 < b) (u : List Int) : ((hor t b u : Int) : Rat) = (b : Rat) ^ (u.length - 1) * ev u ((t : Rat) / (b : Rat)) := by
  have h := hor_eq (t := t) (b := b) (by omega) u
  have nb := ratInt_ne (a := b) (by omega)
  cases u with
  | nil =>
    show ((0 : Int) : Rat) = _ * 0
    have : ((0 : Int) : Rat) = 0 := rfl
    grind
  | cons x xs =>
    rw [List.length_cons] at h ⊢
    rw [Nat.add_sub_cancel]
    rw [Rat.pow_succ] at h
    unfold ev
    rw [List.length_cons]
    generalize fev _ _ _ = z at *
    generalize ((hor t b (x :: xs) : Int) : Rat) = w at *
    have : (b : Rat) * (w - (b : Rat) ^ xs.length * z) = 0 := by grind
    have := prod_zero nb this
    grind

/-! ### the table of a line -/
structure Tb (dd ss : List Fr) : Prop where
  c1 : 1 ≤ dd.length
  c5 : dd.length ≤ 5
  len : ss.length = dd.length + 1
  dok : ∀ x ∈ dd, FOk x ∧ 0 ≤ x.1 ∧ x.1 < 64 ∧ x.2 < 64
  sok : ∀ x ∈ ss, FOk x ∧ 0 ≤ x.1 ∧ x.1 < 64 ∧ x.2 < 64
end Mx
/-! Truth values compared. -/
namespace DL
open PySem PySem.Spec PyProof.Rows L2
section
variable {K : PySem.W.Frag} {B : Bs} {G : List Hp} {L : List Addr} {Γ : List Sl} {H H' H2 : Hp} {σ : L2.St}
variable {te ta tb tc : TE} {tt tu : TT} {tr : TA} {k : PyData → Prop} {x y : PyData}
end
end DL
/-! The least common multiple of two numbers; in, not in, index over lists of data. -/
namespace DL
open PySem PySem.Spec PyProof.Rows L2
section
open PySem.W
end
section
variable {K : PySem.W.Frag} {B : Bs} {G : List Hp} {L : List Addr} {Γ : List Sl} {te tf : TE} {k : PyData → Prop}
theorem rok_notInD {x : PyData} {ds : List PyData} (nx : x.hasDict = false) (ny : (PyData.list ds).hasDict = false) (sx : SeqAt.shaped x = true) (sy : SeqAt.shaped (.list ds) = true) (hk : k (.bool (!ds.any fun z => PyData.eqv z x))) : ROk K B G L Γ (rNotInD K) x (.list ds) k := fun σ H Q v u E d1 d2 q =>
  ⟨x, ds, Dn.dp (d1.mono (hid_sub _ _)) nx, Dn.dp (d2.mono (hid_sub _ _)) ny, sx, sy, q _ _ H (Go.refl E) (.bl _) hk⟩
end
end DL
/-! Polynomials told by their values. -/
namespace Px
open PySem DL Mx
def pe : List Rat → Rat → Rat
  | [], _ => 0
  | a :: u, x => a + x * pe u x
def sdv (r : Rat) : List Rat → List Rat
  | [] => []
  | [_] => []
  | _ :: b :: u => pe (b :: u) r :: sdv r (b :: u)
theorem sdv_len (r : Rat) : ∀ u : List Rat, (sdv r u).length = u.length - 1
  | [] => rfl
  | [_] => rfl
  | _ :: b :: u => by
    show (sdv r (b :: u)).length + 1 = _
    rw [sdv_len r (b :: u)]
    rfl
theorem sdv_ev (r x : Rat) : ∀ u : List Rat, pe u x = pe u r + (x - r) * pe (sdv r u) x
  | [] => by
    show (0 : Rat) = 0 + (x - r) * 0
    grind
  | [a] => by
    show a + x * 0 = a + r * 0 + (x - r) * 0
    grind
  | a :: b :: u => by
    have ih := sdv_ev r x (b :: u)
    show a + x * pe (b :: u) x = a + r * pe (b :: u) r + (x - r) * (pe (b :: u) r + x * pe (sdv r (b :: u)) x)
    rw [ih]
    grind
theorem sdv_zero (r : Rat) : ∀ u : List Rat, (∀ y ∈ sdv r u, y = 0) → pe u r = 0 → ∀ y ∈ u, y = 0
  | [], _, _ => fun y hy => by simp at hy
  | [a], _, h => fun y hy => by
    have : a + r * 0 = 0 := h
    simp at hy
    rw [hy]
    grind
  | a :: b :: u, h, h2 => by
    have h1 : pe (b :: u) r = 0 := h _ (List.mem_cons_self ..)
    have ih := sdv_zero r (b :: u) (fun y hy => h y (List.mem_cons_of_mem _ hy)) h1
    have h2 : a + r * pe (b :: u) r = 0 := h2
    intro y hy
    rcases List.mem_cons.mp hy with rfl | hy
    · rw [h1] at h2
      grind
    · exact ih y hy
theorem pe_zero : ∀ (n : Nat) (u : List Rat) (m : Nat), u.length ≤ n → (∀ k : Nat, m ≤ k → pe u (k : Rat) = 0) → ∀ y ∈ u, y = 0
  | 0, u, m, hl, h => by
    obtain rfl : u = [] := List.length_eq_zero_iff.mp (by omega)
    intro y hy
    simp at hy
  | n + 1, u, m, hl, h => by
    have h0 := h m (Nat.le_refl _)
    refine sdv_zero (m : Rat) u (pe_zero n _ (m + 1) (by rw [sdv_len]; omega) fun k hk => ?_) h0
    have h1 := h k (by omega)
    rw [sdv_ev (m : Rat) (k : Rat) u, h0] at h1
    have ne : (k : Rat) - (m : Rat) ≠ 0 := fun z => by
      have : ((k : Nat) : Rat) = ((m : Nat) : Rat) := by grind
      have := Rat.natCast_inj.mp this
      omega
    have h1 : ((k : Rat) - (m : Rat)) * pe (sdv (m : Rat) u) (k : Rat) = 0 := by grind
    rcases Rat.mul_eq_zero.mp h1 with z | z
    · exact absurd z ne
    · exact z
theorem pe_get {u : List Rat} (h : ∀ x, pe u x = 0) (k : Nat) : u.getD k 0 = 0 := by
  rw [List.getD_eq_getElem?_getD]
  cases e : u[k]? with
  | none => rfl
  | some y => exact pe_zero u.length u 0 (Nat.le_refl _) (fun k _ => h _) y (List.mem_of_getElem? e)
theorem pe_ext : ∀ {u v : List Rat}, (∀ k, u.getD k 0 = v.getD k 0) → ∀ x, pe u x = pe v x
  | [], [], _, _ => rfl
  | a :: u, [], h, x => by
    have h0 : a = 0 := h 0
    have ih := pe_ext (u := u) (v := []) (fun k => by have := h (k + 1); simpa using this) x
    show a + x * pe u x = 0
    rw [ih, h0]
    show (0 : Rat) + x * 0 = 0
    grind
  | [], b :: v, h, x => by
    have h0 : 0 = b := h 0
    have ih := pe_ext (u := []) (v := v) (fun k => by have := h (k + 1); simpa using this) x
    show 0 = b + x * pe v x
    rw [← ih, ← h0]
    show 0 = (0 : Rat) + x * 0
    grind
  | a :: u, b :: v, h, x => by
    have h0 : a = b := h 0
    have ih := pe_ext (u := u) (v := v) (fun k => by have := h (k + 1); simpa using this) x
    show a + x * pe u x = b + x * pe v x
    rw [ih, h0]
def lin (a : Rat) (u : List Rat) (b : Rat) (v : List Rat) : List Rat := (List.range (max u.length v.length)).map fun k => a * u.getD k 0 + b * v.getD k 0
theorem get_out {α : Type} {u : List α} {k : Nat} {z : α} (h : u.length ≤ k) : u.getD k z = z := by
  rw [List.getD_eq_getElem?_getD, List.getElem?_eq_none h]
  rfl
theorem lin_get (a : Rat) (u : List Rat) (b : Rat) (v : List Rat) (k : Nat) : (lin a u b v).getD k 0 = a * u.getD k 0 + b * v.getD k 0 := by
  unfold lin
  by_cases h : k < max u.length v.length
  · rw [List.getD_eq_getElem?_getD, List.getElem?_map, List.getElem?_range h]
    rfl
  · rw [get_out (by simp; omega), get_out (u := u) (by omega), get_out (u := v) (by omega)]
    grind
theorem pe_tail (a : Rat) (u : List Rat) (x : Rat) : pe (a :: u) x = a + x * pe u x := rfl
theorem pe_lin' (a b x : Rat) : ∀ (n : Nat) (u v w : List Rat), u.length + v.length ≤ n → (∀ k, w.getD k 0 = a * u.getD k 0 + b * v.getD k 0) → pe w x = a * pe u x + b * pe v x
  | 0, u, v, w, hl, h => by
    obtain rfl : u = [] := List.length_eq_zero_iff.mp (by omega)
    obtain rfl : v = [] := List.length_eq_zero_iff.mp (by omega)
    rw [pe_ext (v := []) (fun k => by rw [h k]; show a * 0 + b * 0 = (0 : Rat); grind)]
    show (0 : Rat) = a * 0 + b * 0
    grind
  | n + 1, u, v, w, hl, h => by
    have ew : pe w x = pe ((a * u.getD 0 0 + b * v.getD 0 0) :: w.tail) x := pe_ext (fun k => by
      cases k with
      | zero => rw [h 0]; rfl
      | succ k =>
        cases w with
        | nil => rfl
        | cons c w => rfl) x
    have ht : ∀ (r : List Rat) (k : Nat), r.tail.getD k 0 = r.getD (k + 1) 0 := fun r k => by
      cases r with
      | nil => rfl
      | cons c r => rfl
    have eu : ∀ r : List Rat, pe r x = r.getD 0 0 + x * pe r.tail x := fun r => by
      cases r with
      | nil => show (0 : Rat) = 0 + x * 0; grind
      | cons c r => rfl
    by_cases z : u.length + v.length = 0
    · exact pe_lin' a b x n u v w (by omega) h
    · have ih := pe_lin' a b x n u.tail v.tail w.tail (by rw [List.length_tail, List.length_tail]; omega) (fun k => by rw [ht, ht, ht]; exact h (k + 1))
      rw [ew, pe_tail, ih, eu u, eu v]
      grind
theorem pe_lin {a b : Rat} {u v w : List Rat} (h : ∀ k, w.getD k 0 = a * u.getD k 0 + b * v.getD k 0) (x : Rat) : pe w x = a * pe u x + b * pe v x := pe_lin' a b x _ u v w (Nat.le_refl _) h
/-- two rows with values in proportion -/
theorem pe_prop {c : Rat} {u v : List Rat} (h : ∀ x, pe u x = c * pe v x) (k : Nat) : u.getD k 0 = c * v.getD k 0 := by
  have z := pe_get (u := lin 1 u (-c) v) (fun x => by
    rw [pe_lin (lin_get 1 u (-c) v), h x]
    grind) k
  rw [lin_get] at z
  grind
theorem pe_set (z x : Rat) : ∀ (u : List Rat) (k : Nat), k < u.length → pe (u.set k (u.getD k 0 + z)) x = pe u x + z * x ^ k
  | [], k, h => by simp at h
  | a :: u, 0, _ => by
    show a + z + x * pe u x = a + x * pe u x + z * x ^ 0
    rw [Rat.pow_zero]
    grind
  | a :: u, k + 1, h => by
    have ih := pe_set z x u k (by simpa using h)
    show a + x * pe (u.set k (u.getD k 0 + z)) x = a + x * pe u x + z * x ^ (k + 1)
    rw [ih, Rat.pow_succ]
    grind
theorem pe_take (x : Rat) : ∀ (u : List Rat) (k : Nat), k < u.length → pe (u.take (k + 1)) x = pe (u.take k) x + u.getD k 0 * x ^ k
  | [], k, h => by simp at h
  | a :: u, 0, _ => by
    show a + x * 0 = 0 + a * x ^ 0
    rw [Rat.pow_zero]
    grind
  | a :: u, k + 1, h => by
    have ih := pe_take x u k (by simpa using h)
    show a + x * pe (u.take (k + 1)) x = a + x * pe (u.take k) x + u.getD k 0 * x ^ (k + 1)
    rw [ih, Rat.pow_succ]
    grind
theorem rpow_add (a : Rat) (m : Nat) : ∀ n : Nat, a ^ (m + n) = a ^ m * a ^ n
  | 0 => by rw [Nat.add_zero, Rat.pow_zero]; grind
  | n + 1 => by
    rw [← Nat.add_assoc, Rat.pow_succ, rpow_add a m n, Rat.pow_succ]
    grind
/-! ### rows of whole numbers -/
def ri (u : List Int) : List Rat := u.map fun z : Int => (z : Rat)
def pI (u : List Int) (x : Rat) : Rat := pe (ri u) x
theorem ri_get (u : List Int) (k : Nat) : (ri u).getD k 0 = ((u.getD k 0 : Int) : Rat) := by
  unfold ri
  rw [List.getD_eq_getElem?_getD, List.getD_eq_getElem?_getD, List.getElem?_map]
  cases u[k]? <;> rfl
theorem pI_trim (u : List Int) (x : Rat) : pI (trim u) x = pI u x := pe_ext (fun k => by rw [ri_get, ri_get, trim_get]) x
theorem pI_comb (a : Int) (u : List Int) (b : Int) (v : List Int) (x : Rat) : pI (comb a u b v) x = (a : Rat) * pI u x + (b : Rat) * pI v x :=
  pe_lin (fun k => by rw [ri_get, ri_get, ri_get, comb_get, Rat.intCast_add, Rat.intCast_mul, Rat.intCast_mul]) x
def n1 : List Int → Nat
  | [] => 0
  | a :: u => a.natAbs + n1 u
theorem n1_mem : ∀ {u : List Int} {x : Int}, x ∈ u → x.natAbs ≤ n1 u
  | a :: u, x, h => by
    rcases List.mem_cons.mp h with rfl | h
    · show _ ≤ _ + n1 u
      omega
    · have := n1_mem h
      show _ ≤ a.natAbs + n1 u
      omega
theorem n1_get (u : List Int) (k : Nat) : (u.getD k 0).natAbs ≤ n1 u := by
  rw [List.getD_eq_getElem?_getD]
  cases e : u[k]? with
  | none => exact Nat.zero_le _
  | some y => exact n1_mem (List.mem_of_getElem? e)
theorem n1_set (z : Int) : ∀ (u : List Int) (k : Nat), n1 (u.set k (u.getD k 0 + z)) ≤ n1 u + z.natAbs
  | [], k => by simp [n1]
  | a :: u, 0 => by
    show (a + z).natAbs + n1 u ≤ a.natAbs + n1 u + z.natAbs
    omega
  | a :: u, k + 1 => by
    have ih := n1_set z u k
    show a.natAbs + n1 (u.set k (u.getD k 0 + z)) ≤ a.natAbs + n1 u + z.natAbs
    omega
theorem n1_zeros : ∀ n, n1 (List.replicate n 0) = 0
  | 0 => rfl
  | n + 1 => by
    show (0 : Int).natAbs + n1 (List.replicate n 0) = 0
    rw [n1_zeros n]
    rfl
theorem n1_take : ∀ (u : List Int) (k : Nat), k < u.length → n1 (u.take (k + 1)) = n1 (u.take k) + (u.getD k 0).natAbs
  | [], k, h => by simp at h
  | a :: u, 0, _ => by
    show a.natAbs + 0 = 0 + a.natAbs
    omega
  | a :: u, k + 1, h => by
    have ih := n1_take u k (by simpa using h)
    show a.natAbs + n1 (u.take (k + 1)) = a.natAbs + n1 (u.take k) + (u.getD k 0).natAbs
    omega
theorem n1_takele : ∀ (u : List Int) (k : Nat), n1 (u.take k) ≤ n1 u
  | [], k => by simp [n1]
  | a :: u, 0 => Nat.zero_le _
  | a :: u, k + 1 => by
    have := n1_takele u k
    show a.natAbs + n1 (u.take k) ≤ a.natAbs + n1 u
    omega
theorem n1_comb' (a b : Int) : ∀ (n : Nat) (u v w : List Int), w.length ≤ n → (∀ k, w.getD k 0 = a * u.getD k 0 + b * v.getD k 0) → n1 w ≤ a.natAbs * n1 u + b.natAbs * n1 v
  | 0, u, v, w, hl, _ => by
    obtain rfl : w = [] := List.length_eq_zero_iff.mp (by omega)
    exact Nat.zero_le _
  | n + 1, u, v, w, hl, h => by
    cases w with
    | nil => exact Nat.zero_le _
    | cons c w =>
      have ht : ∀ (r : List Int) (k : Nat), r.tail.getD k 0 = r.getD (k + 1) 0 := fun r k => by
        cases r with
        | nil => rfl
        | cons c r => rfl
      have eu : ∀ r : List Int, n1 r = (r.getD 0 0).natAbs + n1 r.tail := fun r => by
        cases r with
        | nil => rfl
        | cons c r => rfl
      have ih := n1_comb' a b n u.tail v.tail w (by simpa using hl) (fun k => by rw [ht, ht]; exact h (k + 1))
      have h0 : c = a * u.getD 0 0 + b * v.getD 0 0 := h 0
      have ab := Int.natAbs_add_le (a * u.getD 0 0) (b * v.getD 0 0)
      rw [Int.natAbs_mul, Int.natAbs_mul] at ab
      show c.natAbs + n1 w ≤ _
      rw [eu u, eu v, h0, Nat.mul_add, Nat.mul_add]
      omega
theorem n1_comb (a : Int) (u : List Int) (b : Int) (v : List Int) : n1 (comb a u b v) ≤ a.natAbs * n1 u + b.natAbs * n1 v := n1_comb' a b _ u v _ (Nat.le_refl _) (comb_get a u b v)
theorem n1_trim (u : List Int) : n1 (trim u) ≤ n1 u := by
  have := n1_comb' 1 0 _ u [] (trim u) (Nat.le_refl _) (fun k => by rw [trim_get]; omega)
  simpa using this
theorem n1_bd {u : List Int} {e : Nat} (h : n1 u < 2 ^ e) : bd u e := fun x hx => Nat.lt_of_le_of_lt (n1_mem hx) h
theorem pI_get {u : List Int} (h : ∀ x, pI u x = 0) (k : Nat) : u.getD k 0 = 0 := by
  have := pe_get h k
  rw [ri_get] at this
  exact Rat.intCast_inj.mp this
theorem dvd_gcdL {d a : Int} : ∀ {v : List Int}, (∀ y ∈ v, d ∣ a * y) → d.natAbs ∣ a.natAbs * gcdL v
  | [], _ => by
    show _ ∣ a.natAbs * 0
    exact Nat.dvd_zero _
  | y :: v, h => by
    have h1 : d.natAbs ∣ a.natAbs * y.natAbs := by
      have := Int.natAbs_dvd_natAbs.mpr (h y (List.mem_cons_self ..))
      rwa [Int.natAbs_mul] at this
    have h2 := dvd_gcdL (v := v) fun z hz => h z (List.mem_cons_of_mem _ hz)
    show _ ∣ a.natAbs * Nat.gcd y.natAbs (gcdL v)
    rw [← Nat.gcd_mul_left]
    exact Nat.dvd_gcd h1 h2
theorem gcdL_some : ∀ {u : List Int}, gcdL u ≠ 0 → ∃ k, u.getD k 0 ≠ 0
  | [], h => absurd rfl h
  | x :: xs, h => by
    by_cases q : x = 0
    · subst q
      have : gcdL xs ≠ 0 := fun z => h (by show Nat.gcd (0 : Int).natAbs (gcdL xs) = 0; rw [z]; rfl)
      obtain ⟨k, hk⟩ := gcdL_some this
      exact ⟨k + 1, by rw [List.getD_cons_succ]; exact hk⟩
    · exact ⟨0, q⟩
theorem mem_get {u : List Int} {y : Int} (h : y ∈ u) : ∃ k, u.getD k 0 = y := by
  obtain ⟨k, hk, e⟩ := List.getElem_of_mem h
  exact ⟨k, by rw [List.getD_eq_getElem?_getD, List.getElem?_eq_getElem hk, ← e]; rfl⟩
/-- primitive rows with values in proportion are one -/
theorem prim_uniq {c : Rat} (hc : 0 < c) {u v : List Int} (h : ∀ x, pI u x = c * pI v x) (gu : gcdL u = 1) (gv : gcdL v = 1) (tu : u.getLast? ≠ some 0) (tv : v.getLast? ≠ some 0) : u = v := by
  have hk : ∀ k, ((u.getD k 0 : Int) : Rat) = c * ((v.getD k 0 : Int) : Rat) := fun k => by
    rw [← ri_get, ← ri_get]
    exact pe_prop h k
  obtain ⟨m, hm⟩ := gcdL_some (u := u) (by omega)
  have hv : v.getD m 0 ≠ 0 := fun z => by
    have := hk m
    rw [z] at this
    have z0 : ((0 : Int) : Rat) = 0 := rfl
    rw [z0] at this
    have e : ((u.getD m 0 : Int) : Rat) = ((0 : Int) : Rat) := by rw [this, z0]; grind
    exact hm (Rat.intCast_inj.mp e)
  have cross : ∀ k, u.getD k 0 * v.getD m 0 = u.getD m 0 * v.getD k 0 := fun k => by
    apply Rat.intCast_inj.mp
    rw [Rat.intCast_mul, Rat.intCast_mul, hk k, hk m]
    grind
  have d1 : (v.getD m 0).natAbs ∣ (u.getD m 0).natAbs * gcdL v := dvd_gcdL fun y hy => by
    obtain ⟨k, rfl⟩ := mem_get hy
    rw [← cross k]
    exact ⟨u.getD k 0, Int.mul_comm _ _⟩
  have d2 : (u.getD m 0).natAbs ∣ (v.getD m 0).natAbs * gcdL u := dvd_gcdL fun y hy => by
    obtain ⟨k, rfl⟩ := mem_get hy
    rw [Int.mul_comm, cross k]
    exact ⟨v.getD k 0, rfl⟩
  rw [gv, Nat.mul_one] at d1
  rw [gu, Nat.mul_one] at d2
  have ab := Nat.dvd_antisymm d1 d2
  have c1 : ∀ k, u.getD k 0 = v.getD k 0 := by
    have e : u.getD m 0 = v.getD m 0 ∨ u.getD m 0 = - v.getD m 0 := by omega
    rcases e with e | e
    · have : c = 1 := by
        have h1 := hk m
        rw [e] at h1
        have ne := ratInt_ne hv
        grind
      intro k
      have h1 := hk k
      rw [this] at h1
      exact Rat.intCast_inj.mp (by rw [h1]; grind)
    · exfalso
      have h1 := hk m
      rw [e, Rat.intCast_neg] at h1
      have ne := ratInt_ne hv
      have : c = -1 := by grind
      rw [this] at hc
      exact absurd hc (by decide)
  exact row_ext tu tv c1
theorem gcdL_scale (g : Int) : ∀ u : List Int, gcdL (u.map fun x => g * x) = g.natAbs * gcdL u
  | [] => rfl
  | y :: u => by
    show Nat.gcd (g * y).natAbs (gcdL (u.map fun x => g * x)) = g.natAbs * Nat.gcd y.natAbs (gcdL u)
    rw [gcdL_scale g u, Int.natAbs_mul, Nat.gcd_mul_left]
theorem div_gcd {u : List Int} {g : Int} (hg : 0 < g) (hd : ∀ x ∈ u, g ∣ x) : g.natAbs * gcdL (u.map fun x => x / g) = gcdL u := by
  rw [← gcdL_scale, List.map_map]
  congr 1
  have : ∀ x ∈ u, ((fun x => g * x) ∘ fun x => x / g) x = x := fun x hx => Int.mul_ediv_cancel' (hd x hx)
  conv => rhs; rw [← List.map_id u]
  exact List.map_congr_left this
theorem prim_gcd {u : List Int} (h : ∃ x ∈ u, x ≠ 0) : gcdL (prim u) = 1 := by
  have hg := gcdL_pos h
  have e := div_gcd (u := u) (g := ((gcdL u : Nat) : Int)) (by omega) (fun x hx => gcdL_dvd hx)
  rw [Int.natAbs_natCast] at e
  exact Nat.eq_of_mul_eq_mul_left hg (by rw [Nat.mul_one]; exact e)
theorem prim_pI (u : List Int) (h : ∃ x ∈ u, x ≠ 0) (x : Rat) : pI u x = ((gcdL u : Nat) : Rat) * pI (prim u) x := by
  have hg := gcdL_pos h
  have := pe_lin (a := ((gcdL u : Nat) : Rat)) (b := 0) (u := ri (prim u)) (v := []) (w := ri u) (fun k => by
    rw [ri_get, ri_get, prim_get]
    have hd : ((gcdL u : Nat) : Int) ∣ u.getD k 0 := by
      rw [List.getD_eq_getElem?_getD]
      cases e : u[k]? with
      | none => exact Int.dvd_zero _
      | some y => exact gcdL_dvd (List.mem_of_getElem? e)
    have e := Int.mul_ediv_cancel' hd
    have e2 : ((u.getD k 0 : Int) : Rat) = (((gcdL u : Nat) : Int) : Rat) * ((u.getD k 0 / ((gcdL u : Nat) : Int) : Int) : Rat) := by rw [← Rat.intCast_mul, e]
    rw [e2]
    show _ = _ + 0 * (([] : List Rat).getD k 0)
    have e3 : (((gcdL u : Nat) : Int) : Rat) = ((gcdL u : Nat) : Rat) := rfl
    rw [e3]
    grind) x
  unfold pI
  rw [this]
  grind
/-! ### rows of fractions -/
/-- sizes: over one denominator -/
structure Rw (r : List Fr) (N e : Nat) : Prop where
  len : r.length ≤ N
  fo : ∀ x ∈ r, FOk x
  sz : ∃ S : Int, 0 < S ∧ S.natAbs < 2 ^ e ∧ ∀ x ∈ r, ∃ u : Int, u.natAbs < 2 ^ e ∧ val x * (S : Rat) = (u : Rat)
theorem Rw.sm {r : List Fr} {N e : Nat} (h : Rw r N e) (he : e ≤ 4000) : ∀ x ∈ r, Sm x := fun x hx => by
  obtain ⟨S, s0, s1, all⟩ := h.sz
  obtain ⟨u, hu, eu⟩ := all x hx
  have f := h.fo x hx
  obtain ⟨a, b, _⟩ := f.small s0 eu
  exact ⟨f.1, Nat.lt_of_le_of_lt a (pow_up hu he), Nat.lt_of_le_of_lt b (pow_up s1 he)⟩
theorem Rw.up {r : List Fr} {N e M f : Nat} (h : Rw r N e) (h1 : N ≤ M) (h2 : e ≤ f) : Rw r M f := by
  obtain ⟨S, s0, s1, all⟩ := h.sz
  exact ⟨Nat.le_trans h.len h1, h.fo, S, s0, pow_up s1 h2, fun x hx => by
    obtain ⟨u, hu, eu⟩ := all x hx
    exact ⟨u, pow_up hu h2, eu⟩⟩
theorem Rw.take {r : List Fr} {N e : Nat} (h : Rw r N e) (k : Nat) : Rw (r.take k) N e := by
  obtain ⟨S, s0, s1, all⟩ := h.sz
  exact ⟨by rw [List.length_take]; have := h.len; omega, fun x hx => h.fo x (List.mem_of_mem_take hx), S, s0, s1, fun x hx => all x (List.mem_of_mem_take hx)⟩
end Px
/-! Machines: what hangs on a disc, held and free. -/
namespace Px
open PySem DL Mx
structure Mq where
  n : Nat
  J : Nat → Rat
  W : Nat → Rat
  K : Nat → Rat
  Q : Nat → Rat
  p : Nat → Nat
/-- the kids of a disc among the last m places -/
def kf (n : Nat) (p : Nat → Nat) (i : Nat) : Nat → List Nat
  | 0 => []
  | m + 1 => if i < n - (m + 1) ∧ p (n - (m + 1)) = i then (n - (m + 1)) :: kf n p i m else kf n p i m
def kids (n : Nat) (p : Nat → Nat) (i : Nat) : List Nat := kf n p i (n - (i + 1))
theorem kf_mem {n : Nat} {p : Nat → Nat} {i c : Nat} : ∀ {m}, c ∈ kf n p i m → i < c ∧ p c = i ∧ n - m ≤ c ∧ (m ≤ n → c < n)
  | 0, h => by simp [kf] at h
  | m + 1, h => by
    unfold kf at h
    split at h
    · rename_i q
      rcases List.mem_cons.mp h with rfl | h
      · exact ⟨q.1, q.2, Nat.le_refl _, fun z => by omega⟩
      · obtain ⟨a, b, c1, d⟩ := kf_mem h
        exact ⟨a, b, by omega, fun z => d (by omega)⟩
    · obtain ⟨a, b, c1, d⟩ := kf_mem h
      exact ⟨a, b, by omega, fun z => d (by omega)⟩
theorem kids_mem {n : Nat} {p : Nat → Nat} {i c : Nat} (h : c ∈ kids n p i) : i < c ∧ p c = i ∧ c < n := by
  obtain ⟨a, b, _, d⟩ := kf_mem h
  exact ⟨a, b, d (by omega)⟩
def hpl (s q : Nat → Rat) : List Nat → Rat × Rat
  | [] => (1, 0)
  | c :: cs => ((hpl s q cs).1 * s c, (hpl s q cs).2 * s c + (hpl s q cs).1 * q c)
def hf (M : Mq) (x : Rat) : Nat → Nat → Rat × Rat
  | 0, i => (1, M.W i - x * M.J i)
  | f + 1, i => ((hpl (fun c => (hf M x f c).2 + M.K c * (hf M x f c).1) (fun c => M.Q c * (hf M x f c).2) (kids M.n M.p i)).1,
    (M.W i - x * M.J i) * (hpl (fun c => (hf M x f c).2 + M.K c * (hf M x f c).1) (fun c => M.Q c * (hf M x f c).2) (kids M.n M.p i)).1 + (hpl (fun c => (hf M x f c).2 + M.K c * (hf M x f c).1) (fun c => M.Q c * (hf M x f c).2) (kids M.n M.p i)).2)
def hM (M : Mq) (x : Rat) (i : Nat) : Rat := (hf M x M.n i).1
def fM (M : Mq) (x : Rat) (i : Nat) : Rat := (hf M x M.n i).2
/-- each row times a number -/
structure Sc (M N : Mq) (h : Nat → Rat) : Prop where
  n : N.n = M.n
  p : N.p = M.p
  pos : ∀ i, 0 < h i
  J : ∀ i, N.J i = h i * M.J i
  W : ∀ i, N.W i = h i * M.W i
  K : ∀ i, N.K i = h i * M.K i
  Q : ∀ i, 0 < i → N.Q i = h (M.p i) * M.Q i
theorem hpl_sc {s q s' q' d : Nat → Rat} {t : Rat} : ∀ {cs : List Nat}, (∀ c ∈ cs, 0 < d c) → ∃ D : Rat, 0 < D ∧ ∀ {s q s' q' : Nat → Rat}, (∀ c ∈ cs, s' c = d c * s c ∧ q' c = d c * t * q c) → (hpl s' q' cs).1 = D * (hpl s q cs).1 ∧ (hpl s' q' cs).2 = D * t * (hpl s q cs).2
  | [], _ => ⟨1, by decide, fun _ => ⟨by show (1 : Rat) = 1 * 1; grind, by show (0 : Rat) = 1 * t * 0; grind⟩⟩
  | c :: cs, hd => by
    obtain ⟨D, D0, hD⟩ := hpl_sc (s := s) (q := q) (s' := s') (q' := q') (d := d) (t := t) (cs := cs) fun c hc => hd c (List.mem_cons_of_mem _ hc)
    refine ⟨D * d c, Rat.mul_pos D0 (hd c (List.mem_cons_self ..)), fun {s q s' q'} h => ?_⟩
    obtain ⟨a1, a2⟩ := hD (s := s) (q := q) (s' := s') (q' := q') fun c hc => h c (List.mem_cons_of_mem _ hc)
    obtain ⟨b1, b2⟩ := h c (List.mem_cons_self ..)
    show (hpl s' q' cs).1 * s' c = _ * ((hpl s q cs).1 * s c) ∧ (hpl s' q' cs).2 * s' c + (hpl s' q' cs).1 * q' c = _ * ((hpl s q cs).2 * s c + (hpl s q cs).1 * q c)
    rw [a1, a2, b1, b2]
    constructor <;> grind
theorem sc_hf {M N : Mq} {h : Nat → Rat} (S : Sc M N h) : ∀ f, ∃ b : Nat → Rat, (∀ i, 0 < b i) ∧ ∀ x i, (hf N x f i).1 = b i * (hf M x f i).1 ∧ (hf N x f i).2 = b i * h i * (hf M x f i).2
  | 0 => ⟨fun _ => 1, fun _ => (by decide : (0 : Rat) < 1), fun x i => ⟨by show (1 : Rat) = 1 * 1; grind, by
      show N.W i - x * N.J i = 1 * h i * (M.W i - x * M.J i)
      rw [S.W, S.J]
      grind⟩⟩
  | f + 1 => by
    obtain ⟨b, b0, hb⟩ := sc_hf S f
    have ch : ∀ i, ∃ D : Rat, 0 < D ∧ ∀ {s q s' q' : Nat → Rat}, (∀ c ∈ kids M.n M.p i, s' c = (b c * h c) * s c ∧ q' c = (b c * h c) * h i * q c) → (hpl s' q' (kids M.n M.p i)).1 = D * (hpl s q (kids M.n M.p i)).1 ∧ (hpl s' q' (kids M.n M.p i)).2 = D * h i * (hpl s q (kids M.n M.p i)).2 := fun i =>
      hpl_sc (s := h) (q := h) (s' := h) (q' := h) (d := fun c => b c * h c) (t := h i) fun c _ => Rat.mul_pos (b0 c) (S.pos c)
    refine ⟨fun i => (ch i).choose, fun i => (ch i).choose_spec.1, fun x i => ?_⟩
    have key := (ch i).choose_spec.2 (s := fun c => (hf M x f c).2 + M.K c * (hf M x f c).1) (q := fun c => M.Q c * (hf M x f c).2) (s' := fun c => (hf N x f c).2 + N.K c * (hf N x f c).1) (q' := fun c => N.Q c * (hf N x f c).2) fun c hc => by
      obtain ⟨a1, a2, a3⟩ := kids_mem hc
      obtain ⟨e1, e2⟩ := hb x c
      rw [e1, e2, S.K, S.Q c (by omega), a2]
      constructor <;> grind
    obtain ⟨k1, k2⟩ := key
    have en : kids N.n N.p i = kids M.n M.p i := by rw [S.n, S.p]
    show (hpl _ _ (kids N.n N.p i)).1 = _ * (hpl _ _ (kids M.n M.p i)).1 ∧ (N.W i - x * N.J i) * (hpl _ _ (kids N.n N.p i)).1 + (hpl _ _ (kids N.n N.p i)).2 = _ * ((M.W i - x * M.J i) * (hpl _ _ (kids M.n M.p i)).1 + (hpl _ _ (kids M.n M.p i)).2)
    rw [en, k1, k2, S.W, S.J]
    constructor
    · rfl
    · grind
theorem Sc.at {M N : Mq} {h : Nat → Rat} (S : Sc M N h) : ∃ b : Nat → Rat, (∀ i, 0 < b i) ∧ ∀ x i, hM N x i = b i * hM M x i ∧ fM N x i = b i * h i * fM M x i := by
  obtain ⟨b, b0, hb⟩ := sc_hf S M.n
  refine ⟨b, b0, fun x i => ?_⟩
  unfold hM fM
  rw [S.n]
  exact hb x i
structure Mpos (M : Mq) : Prop where
  n : 0 < M.n
  p : ∀ i, 0 < i → i < M.n → M.p i < i
  J : ∀ i, i < M.n → 0 < M.J i
  W : ∀ i, i < M.n → 0 ≤ M.W i
  K : ∀ i, 0 < i → i < M.n → 0 < M.K i
  Q : ∀ i, 0 < i → i < M.n → 0 < M.Q i
/-- how many discs hang on one, this one with them -/
def wt (n : Nat) (p : Nat → Nat) : Nat → Nat → Nat
  | 0, _ => 1
  | f + 1, i => 1 + ((kids n p i).map (wt n p f)).sum
end Px
/-! Machines as data. -/
namespace Px
open PySem DL Mx
def frOf (q : Rat) : Fr := (q.num, (q.den : Int))
structure Ds where
  J : Fr
  W : Fr
  p : Nat
  K : Fr
  R : Fr
def d0 : Ds := ⟨(1, 1), (0, 1), 0, (1, 1), (1, 1)⟩
structure Frb (x : Fr) (B : Nat) : Prop where
  ok : FOk x
  b1 : x.1.natAbs < 2 ^ B
  b2 : x.2.natAbs < 2 ^ B
structure Dk (d : Ds) (B : Nat) : Prop where
  J : Frb d.J B
  J0 : 0 < d.J.1
  W : Frb d.W B
  W0 : 0 ≤ d.W.1
  K : Frb d.K B
  K0 : 0 < d.K.1
  R : Frb d.R B
  R0 : d.R.1 ≠ 0
/-- the root's idle numbers stand at one -/
def Rt (m : List Ds) : Prop := ∃ J W ds, m = ⟨J, W, 0, (1, 1), (1, 1)⟩ :: ds
structure Mach (m : List Ds) (B : Nat) : Prop where
  rt : Rt m
  n1 : 1 ≤ m.length
  n8 : m.length ≤ 8
  dk : ∀ i, Dk (m.getD i d0) B
  par : ∀ i, 0 < i → i < m.length → (m.getD i d0).p < i
def mq (m : List Ds) : Mq := { n := m.length, J := fun i => val (m.getD i d0).J, W := fun i => val (m.getD i d0).W, K := fun i => val (m.getD i d0).K, Q := fun i => val (m.getD i d0).K * (val (m.getD i d0).R * val (m.getD i d0).R), p := fun i => (m.getD i d0).p }
theorem Mach.pos {m : List Ds} {B : Nat} (h : Mach m B) : Mpos (mq m) := by
  refine ⟨h.n1, fun i a b => h.par i a b, fun i _ => ?_, fun i _ => ?_, fun i _ _ => ?_, fun i _ _ => ?_⟩
  · exact (val_pos (h.dk i).J.ok.1).1.mpr (h.dk i).J0
  · exact (val_pos (h.dk i).W.ok.1).2.1.mpr (h.dk i).W0
  · exact (val_pos (h.dk i).K.ok.1).1.mpr (h.dk i).K0
  · have k0 := (val_pos (h.dk i).K.ok.1).1.mpr (h.dk i).K0
    have rp := val_pos (h.dk i).R.ok.1
    have r0 : val (m.getD i d0).R ≠ 0 := fun z => (h.dk i).R0 (rp.2.2.mp z)
    refine Rat.mul_pos k0 ?_
    have : val (m.getD i d0).R < 0 ∨ 0 < val (m.getD i d0).R := by grind
    rcases this with q | q
    · have := Rat.mul_pos (show 0 < - val (m.getD i d0).R by grind) (show 0 < - val (m.getD i d0).R by grind)
      grind
    · exact Rat.mul_pos q q
/-! the scales of the rows -/
theorem set_getD {s : List Int} {i : Nat} (v : Int) (h : i < s.length) (k : Nat) (z : Int) : (s.set i v).getD k z = if k = i then v else s.getD k z := by
  by_cases q : k = i
  · subst q
    rw [if_pos rfl, List.getD_eq_getElem?_getD, List.getElem?_set_self h]
    rfl
  · rw [if_neg q, List.getD_eq_getElem?_getD, List.getElem?_set_ne (Ne.symm q), ← List.getD_eq_getElem?_getD]
end Px
/-! Ranges with a start and with a step down, loops with several targets, enumerate in a comprehension. -/
namespace DL
open PySem PySem.Spec PyProof.Rows L2
section
variable {K : PySem.W.Frag} {B : Bs} {G : List Hp} {L : List Addr} {Γ : List Sl} {H H' H2 : Hp} {σ : L2.St}
variable {te ta tb tc tl : TE} {tt tu : TT} {tr : TA} {k : PyData → Prop} {x y : PyData} {P P' : PD} {t u : TS}
/-- for k in range(a, b, -1) -/
theorem st_forRd {j : Nat} (h : EvA K B G L Γ tr fun vs => ∃ a b : Int, vs = [.int a, .int b, .int (-1)] ∧ -1000000 ≤ a ∧ a ≤ 1000000 ∧ -1000000 ≤ b ∧ b ≤ 1000000 ∧ ∃ I : Nat → List Addr → List Sl → Prop, I 0 L Γ ∧
    (∀ i L' Γ', i < (a - b).toNat → I i L' Γ' → StP K B G L' (Γ'.set j (.d (.int (a - (i : Int))))) t (P.inLoop (I (i + 1)))) ∧ ∀ L' Γ', I (a - b).toNat L' Γ' → P.nx L' Γ') :
    StP K B G L Γ (tFor (iRng3 tr) (gName j) t) P := fun σ H D E M =>
  h σ H _ E fun vs ds H1 g1 dn ⟨a, b, e, a0, a1, b0, b1, I, h0, hs, hd⟩ => by
    subst e
    cases dn with
    | cons d1 d2 =>
      cases d2 with
      | cons d2 d3 =>
        cases d3 with
        | cons d3 d4 =>
          cases d4
          cases d1
          cases d2
          cases d3
          refine ⟨a, b, -1, (a - b).toNat, rfl, RgC.neg (by omega) (by omega) (by omega) (by omega), for_rangeC (lo := a) (c := -1) (n := (a - b).toNat) (fun i σ' H' => ∃ L' Γ', I i L' Γ' ∧ Env K B G L' H' σ' Γ') ⟨L, Γ, h0, g1.env⟩ (fun i σ' H' hi ⟨L', Γ', hI, E'⟩ => ?_) (fun σ' H' ⟨L', Γ', hI, E'⟩ => M.nx _ _ _ _ (hd L' Γ' hI) E')⟩
          have e0 : a + (i : Int) * (-1) = a - (i : Int) := by omega
          rw [e0]
          exact hs i L' Γ' hi hI _ H' _ (E'.put j (.int _)) ⟨fun L2 Γ2 σ2 H2 q E2 => ⟨L2, Γ2, q, E2⟩, M.rt, M.nx, fun L2 Γ2 σ2 H2 q E2 => ⟨L2, Γ2, q, E2⟩⟩
/-- for a, b, .. in a list of tuples -/
theorem st_forLG {n : Nat} {tg : TGs} (h : EvP K B G L Γ tl fun d => ∃ ds : List (List PyData), d = .list (ds.map .tuple) ∧ (∀ d ∈ ds, d.length = n) ∧ ∃ I : Nat → List Addr → List Sl → Prop, I 0 L Γ ∧
    (∀ i d' L' Γ' g, ds[i]? = some d' → I i L' Γ' → TgP K B (g :: G) L' Γ' tg d' fun Γ2 => StP K B (g :: G) L' Γ2 t (P.inLoop (I (i + 1)))) ∧ ∀ L' Γ', I ds.length L' Γ' → P.nx L' Γ') :
    StP K B G L Γ (tFor (iList K tl) (gTup K n tg) t) P := fun σ H D E M =>
  h σ H _ E fun v d H1 g1 dn ⟨ds, e, hn, I, h0, hs, hd⟩ => by
    subst e
    cases dn with
    | @lst a xs _ e1 h2 =>
      have E1 := g1.env.gpush
      refine ⟨a, rfl, ⟨xs, .inl (.inl (hid_sub _ _ _ _ e1))⟩, for_list (xs := xs) (fun i σ' H' => ∃ L' Γ', I i L' Γ' ∧ Env K B (hid (L ++ B.M) H1 :: G) L' H' σ' Γ') ⟨L, Γ, h0, E1⟩ (fun i σ' H' _ ⟨L', Γ', _, E'⟩ => ?_) (fun i x σ' H' hi ⟨L', Γ', hI, E'⟩ => ?_) (fun σ' H' ⟨L', Γ', hI, E'⟩ => ?_)⟩
      · exact .inl (.inl (hid_sub _ _ _ _ (E'.gh _ (List.mem_cons_self ..) _ _ e1)))
      · obtain ⟨d', e', dn'⟩ := h2.getV hi
        rw [List.getElem?_map] at e'
        cases e2 : ds[i]? with
        | none => rw [e2] at e'; cases e'
        | some q =>
          rw [e2] at e'
          cases e'
          cases dn'.mono (E'.gh _ (List.mem_cons_self ..)) with
          | @tup a2 ys _ e3 h3 =>
            refine ⟨a2, ys, rfl, Same.sqt (hid_sub _ _) e3, by rw [h3.length]; exact hn q (List.mem_of_getElem? e2), hs i q L' Γ' _ e2 hI σ' H' ys _ E' h3 fun Γ2 σ2 E2 hk => ?_⟩
            exact hk σ2 H' _ E2 ⟨fun L2 Γ2 σ2 H2 q E2 => ⟨L2, Γ2, q, E2⟩, M.rt, fun L2 Γ2 σ2 H2 q E2 => M.nx _ _ _ _ q E2.gpop, fun L2 Γ2 σ2 H2 q E2 => ⟨L2, Γ2, q, E2⟩⟩
      · have hl := h2.length
        rw [List.length_map] at hl
        rw [hl] at hI
        exact M.nx _ _ _ _ (hd L' Γ' hI) E'.gpop
end
end DL
/-! The determinants of a machine's table, disc by disc. -/
namespace Px
open PySem DL Mx L2
theorem Frb.sm {x : Fr} {B : Nat} (h : Frb x B) (hB : B ≤ 4000) : Sm x := ⟨h.ok.1, pow_up h.b1 hB, pow_up h.b2 hB⟩
theorem ints_at {s : List Int} {j : Nat} (h : j < s.length) (z : Int) : atI (s.map PyData.int) (j : Int) = some (.int (s.getD j z)) := by
  rw [atI_n, List.getElem?_map, List.getD_eq_getElem?_getD, List.getElem?_eq_getElem h]
  rfl
structure EndOk (m : List Ds) (u : List Int) : Prop where
  at_ : ∃ c : Rat, 0 < c ∧ ∀ x, pI u x = c * fM (mq m) x 0
  g : gcdL u = 1
  tt : u.getLast? ≠ some 0
  l : u.length ≤ 9
  b : bd u 3901
theorem EndOk.uniq {m n : List Ds} {u v : List Int} (h1 : EndOk m u) (h2 : EndOk n v) {z : Rat} (hz : 0 < z) (e : ∀ x, fM (mq n) x 0 = z * fM (mq m) x 0) : u = v := by
  obtain ⟨⟨c, c0, hc⟩, g1, t1, _, _⟩ := h1
  obtain ⟨⟨d, d0', hd⟩, g2, t2, _, _⟩ := h2
  have dz := Rat.mul_pos d0' hz
  have dzn : d * z ≠ 0 := fun q => by rw [q] at dz; exact absurd dz (by decide)
  refine prim_uniq (c := c * (d * z)⁻¹) (Rat.mul_pos c0 (Rat.inv_pos.mpr dz)) (fun x => ?_) g1 g2 t1 t2
  rw [hc, hd, e]
  grind
end Px
/-! Machines geared out, turned, grown; weights of subtrees. -/
namespace Px
open PySem DL Mx L2
/-! how many discs hang on one -/
def sm (n : Nat) (P : Nat → Bool) (w : Nat → Nat) : Nat → Nat
  | 0 => 0
  | m + 1 => (if P (n - (m + 1)) then w (n - (m + 1)) else 0) + sm n P w m
def wM (n : Nat) (p : Nat → Nat) (i : Nat) : Nat := wt n p n i
/-! geared out -/
def gR (m : List Ds) : Nat → Nat → Rat
  | 0, _ => 1
  | f + 1, i => if 0 < i ∧ i < m.length then gR m f (m.getD i d0).p * val (m.getD i d0).R else 1
def gM (m : List Ds) (i : Nat) : Rat := gR m m.length i
def g2 (m : List Ds) (i : Nat) : Rat := gM m i * gM m i
theorem sq_pos {x : Rat} (h : x ≠ 0) : 0 < x * x := by
  have : x < 0 ∨ 0 < x := by grind
  rcases this with q | q
  · have := Rat.mul_pos (show 0 < - x by grind) (show 0 < - x by grind)
    grind
  · exact Rat.mul_pos q q
def od (m : List Ds) (i : Nat) : Ds := if i = 0 then m.getD 0 d0 else ⟨frOf (val (m.getD i d0).J * g2 m i), frOf (val (m.getD i d0).W * g2 m i), (m.getD i d0).p, frOf (val (m.getD i d0).K * g2 m i), (1, 1)⟩
theorem Mach.root {m : List Ds} {B : Nat} (h : Mach m B) : ∃ J W, m.getD 0 d0 = ⟨J, W, 0, (1, 1), (1, 1)⟩ := by
  obtain ⟨J, W, ds, rfl⟩ := h.rt
  exact ⟨J, W, rfl⟩
end Px
/-! Rows of fractions over one denominator. -/
namespace Px
open PySem DL Mx L2
def mulL : List Int → List Int → List Int
  | [], _ => []
  | a :: u, v => comb a v 1 (0 :: mulL u v)
theorem mulL_pI : ∀ (u v : List Int) (x : Rat), pI (mulL u v) x = pI u x * pI v x
  | [], v, x => by
    show (0 : Rat) = 0 * _
    grind
  | a :: u, v, x => by
    have ih := mulL_pI u v x
    show pI (comb a v 1 (0 :: mulL u v)) x = ((a : Rat) + x * pI u x) * _
    rw [pI_comb]
    have e : pI (0 :: mulL u v) x = ((0 : Int) : Rat) + x * pI (mulL u v) x := rfl
    have z0 : ((0 : Int) : Rat) = 0 := rfl
    have z1 : ((1 : Int) : Rat) = 1 := rfl
    rw [e, ih, z0, z1]
    grind
theorem mulL_n1 : ∀ (u v : List Int), n1 (mulL u v) ≤ n1 u * n1 v
  | [], v => Nat.zero_le _
  | a :: u, v => by
    have ih := mulL_n1 u v
    have := n1_comb a v 1 (0 :: mulL u v)
    have e : n1 (0 :: mulL u v) = 0 + n1 (mulL u v) := rfl
    have o : (1 : Int).natAbs = 1 := rfl
    rw [e, o] at this
    show n1 (comb a v 1 (0 :: mulL u v)) ≤ (a.natAbs + n1 u) * n1 v
    rw [Nat.add_mul]
    omega
theorem mulL_len' : ∀ (u v : List Int), 1 ≤ v.length → (mulL u v).length ≤ u.length + v.length - 1
  | [], v, _ => Nat.zero_le _
  | a :: u, v, h => by
    have ih := mulL_len' u v h
    show (comb a v 1 (0 :: mulL u v)).length ≤ _
    rw [comb_len]
    simp only [List.length_cons]
    cases u with
    | nil =>
      show max v.length (([] : List Int).length + 1) ≤ _
      simp only [List.length_nil]
      omega
    | cons b u =>
      simp only [List.length_cons] at ih ⊢
      omega
theorem mulL_len (u v : List Int) : (trim (mulL u v)).length ≤ u.length + v.length - 1 := by
  by_cases h : 1 ≤ v.length
  · have := trim_len (mulL u v)
    have := mulL_len' u v h
    omega
  · obtain rfl : v = [] := List.length_eq_zero_iff.mp (by omega)
    have e : trim (mulL u []) = [] := row_ext (trim_last _) (by simp) fun k => by
      have := pI_get (u := mulL u []) (fun x => by
        rw [mulL_pI]
        show _ * (0 : Rat) = 0
        grind) k
      rw [trim_get, this]
      rfl
    rw [e]
    exact Nat.zero_le _
/-! ### parts of a machine -/
theorem mul_bd {a b c d : Nat} (h1 : a < 2 ^ c) (h2 : b < 2 ^ d) : a * b < 2 ^ (c + d) := by
  rw [Nat.pow_add]
  exact Nat.mul_lt_mul'' h1 h2
end Px
/-! Machines that are built, turned, grown; rows of the law's parts. -/
namespace Px
open PySem DL Mx L2
theorem Frb.up {x : Fr} {a b : Nat} (h : Frb x a) (l : a ≤ b) : Frb x b := ⟨h.ok, pow_up h.b1 l, pow_up h.b2 l⟩
theorem Mach.up {m : List Ds} {a b : Nat} (h : Mach m a) (l : a ≤ b) : Mach m b := ⟨h.rt, h.n1, h.n8, fun i => by
  have d := h.dk i
  exact ⟨d.J.up l, d.J0, d.W.up l, d.W0, d.K.up l, d.K0, d.R.up l, d.R0⟩, h.par⟩
theorem get_snoc {ms : List Ds} {d : Ds} (i : Nat) : (ms ++ [d]).getD i d0 = if i = ms.length then d else ms.getD i d0 := by
  rcases Nat.lt_trichotomy i ms.length with q | q | q
  · rw [if_neg (by omega), List.getD_eq_getElem?_getD, List.getElem?_append_left q, ← List.getD_eq_getElem?_getD]
  · rw [if_pos q, List.getD_eq_getElem?_getD, List.getElem?_append_right (by omega), q, Nat.sub_self]
    rfl
  · rw [if_neg (by omega), get_out (by rw [List.length_append]; simp; omega), get_out (by omega)]
theorem Mach.push {ms : List Ds} {B : Nat} (h : Mach ms B) {d : Ds} (k : Dk d B) (hp : d.p < ms.length) (l : ms.length < 8) : Mach (ms ++ [d]) B := by
  obtain ⟨J, W, ds, e⟩ := h.rt
  refine ⟨⟨J, W, ds ++ [d], by rw [e]; rfl⟩, by simp, by simp; omega, fun i => ?_, fun i i0 hi => ?_⟩
  · rw [get_snoc]
    split
    · exact k
    · exact h.dk i
  · rw [get_snoc]
    split
    · rename_i q
      rw [q]
      exact hp
    · rename_i q
      rw [List.length_append] at hi
      exact h.par i i0 (by simp at hi; omega)
end Px
/-! Loops over three rows at once, lists or tuples, of one length. -/
namespace DL
open PySem PySem.Spec PyProof.Rows L2 RZ
def ItB (h : Heap) (b : Bool) (it l : Addr) (i : Nat) : Prop := if b = true then h.IsTupleIter it l i else h.IsListIter it l i
theorem ItB.ob {h : Heap} {b : Bool} {it l : Addr} {i : Nat} (q : ItB h b it l i) : ∃ o, h.get? it = some o ∧ o.data = .fields #[.ref l, .int i 0] := by
  unfold ItB at q
  cases b with
  | true => obtain ⟨o, e, _, d⟩ := (show h.IsTupleIter it l i from q); exact ⟨o, e, d⟩
  | false => obtain ⟨o, e, _, d⟩ := (show h.IsListIter it l i from q); exact ⟨o, e, d⟩
theorem ItB.at {h h' : Heap} {b : Bool} {it l : Addr} {i : Nat} (q : ItB h b it l i) (k : ∀ o, h.get? it = some o → h'.get? it = some o) : ItB h' b it l i := by
  unfold ItB at q ⊢
  cases b with
  | true => exact Heap.IsTupleIter.at (show h.IsTupleIter it l i from q) k
  | false => exact Heap.IsListIter.at (show h.IsListIter it l i from q) k
section
variable {K : PySem.W.Frag} {B : Bs} {G : List Hp} {L : List Addr} {Γ : List Sl} {H H' H2 : Hp} {σ : L2.St}
variable {te ta tb tc tl : TE} {tt tu : TT} {tr : TA} {k : PyData → Prop} {x y : PyData} {P P' : PD} {t u : TS}
end
end DL
/-! any of a tuple of whole numbers. -/
namespace DL
open PySem PySem.Spec PyProof.Rows L2
theorem reads_ints (h : Heap) : ∀ {ns : List Int} {its : List Value}, Vals (ns.map V.int) its → ReadsAll h its (ns.map PyData.int) []
  | [], its, r => by cases r; exact .nil
  | n :: ns, its, r => by
    cases r with
    | cons r1 r2 =>
      obtain ⟨t, rfl⟩ := r1
      exact .cons (as := []) (bs := []) (.int n t) (reads_ints h r2)
theorem plain_ints : ∀ ns : List Int, PyData.plainAll (ns.map PyData.int) = true
  | [] => rfl
  | n :: ns => by
    have := plain_ints ns
    simp [PyData.plainAll, PyData.plain, this]
theorem any_true {ns : List Int} {n : Int} (h : n ∈ ns) (h0 : n ≠ 0) : (ns.map PyData.int).any PyData.truthy = true := by
  rw [List.any_eq_true]
  refine ⟨.int n, List.mem_map.mpr ⟨n, h, rfl⟩, ?_⟩
  simp [PyData.truthy, h0]
section
variable {K : PySem.W.Frag} {B : Bs} {G : List Hp} {L : List Addr} {Γ : List Sl} {k : PyData → Prop}
theorem ints_of {f : Hp} : ∀ {xs : List V} {ns : List Int}, DnA K f xs (ns.map PyData.int) → xs = ns.map V.int
  | _, [], h => by cases h; rfl
  | _, n :: ns, h => by
    cases h with
    | cons h1 h2 =>
      cases h1
      rw [ints_of h2]
      rfl
end
end DL
/-! Two rows at once, each a list or a tuple, of one length: loops and comprehensions. -/
namespace DL
open PySem PySem.Spec PyProof.Rows L2 RZ
section
variable {K : PySem.W.Frag} {B : Bs} {G : List Hp} {L : List Addr} {Γ : List Sl} {H H' H2 : Hp} {σ : L2.St}
variable {te ta tb tc tl : TE} {tt tu : TT} {tr : TA} {k : PyData → Prop} {x y : PyData} {P P' : PD} {t u : TS}
end
end DL
/-! A module's table of constant rows; comprehensions with three targets over a tuple of tuples. -/
namespace DL
open PySem PySem.Spec PyProof.Rows L2
section
variable {K : PySem.W.Frag} {B : Bs} {G : List Hp} {L : List Addr} {Γ : List Sl} {H H' H2 : Hp} {σ : L2.St}
variable {te ta tb tc tl : TE} {tt tu : TT} {tr : TA} {k : PyData → Prop} {x y : PyData} {P P' : PD} {t u : TS}
end
end DL
/-! A row that is a list or a tuple. -/
namespace DL
open PySem PySem.Spec PyProof.Rows L2
section
variable {K : PySem.W.Frag} {B : Bs} {G : List Hp} {L : List Addr} {Γ : List Sl} {H H' H2 : Hp} {σ : L2.St}
variable {te ta tb tc tl : TE} {tt tu : TT} {tr : TA} {k : PyData → Prop} {x y : PyData} {P P' : PD} {t u : TS}
end
end DL
/-! The bottoms of a run's angles. -/
namespace Px
open PySem DL Mx L2
end Px
namespace Px
open PySem PySem.Spec PyProof.Rows L2 DL Mx
/-! runs by values, rows thinned together -/
theorem pe_fev' (x : Rat) : ∀ (n : Nat) (u : List Rat), u.length = n → pe u x = fev (fun k => u.getD k 0) x n
  | 0, [], _ => rfl
  | n + 1, a :: u, h => by
    rw [fev_head, pe_tail]
    have := pe_fev' x n u (by simpa using h)
    rw [this]
    rfl
theorem pI_fev (u : List Int) (x : Rat) : pI u x = fev (fun k => ((u.getD k 0 : Int) : Rat)) x u.length := by
  unfold pI
  rw [pe_fev' x u.length (ri u) (by unfold ri; rw [List.length_map])]
  exact fev_congr (fun k => ri_get u k) _
theorem in_getD {α : Type} {z : α} {l : List α} {k : Nat} (h : k < l.length) : l.getD k z ∈ l := by
  rw [List.getD_eq_getElem?_getD, List.getElem?_eq_getElem h]
  exact List.getElem_mem h
end Px
namespace Px
open PySem PySem.Spec PyProof.Rows L2 DL Mx
/-! rows thinned together -/
/-! the laws' own runs of small lines, by values -/
structure Two (e m : Nat) (a t : Rat → Rat) (U V : List Int) (S : Int) : Prop where
  s0 : 0 < S
  sb : S.natAbs < 2 ^ e
  uv : ∀ x, pI U x = (S : Rat) * a x
  vv : ∀ x, pI V x = (S : Rat) * t x
  un : n1 U < 2 ^ e
  vn : n1 V < 2 ^ e
  ul : U.length ≤ m
  vl : V.length ≤ m
theorem pI_cons (z : Int) (u : List Int) (x : Rat) : pI (z :: u) x = (z : Rat) + x * pI u x := rfl
theorem pI_nil (x : Rat) : pI [] x = 0 := rfl
theorem pI_one (z : Int) (x : Rat) : pI [z] x = (z : Rat) := by
  rw [pI_cons, pI_nil]
  grind
theorem n1_cons (z : Int) (u : List Int) : n1 (z :: u) = z.natAbs + n1 u := rfl
end Px
namespace LL
def ab : Nat → Int × Int
  | 0 => (1, 0)
  | n + 1 => (2 * (ab n).1 + 3 * (ab n).2, (ab n).1 + 2 * (ab n).2)
theorem ab_add (m : Nat) : ∀ n, (ab (m + n)).1 = (ab m).1 * (ab n).1 + 3 * ((ab m).2 * (ab n).2) ∧ (ab (m + n)).2 = (ab m).1 * (ab n).2 + (ab m).2 * (ab n).1
  | 0 => by simp [ab]
  | n + 1 => by
    obtain ⟨h1, h2⟩ := ab_add m n
    show 2 * (ab (m + n)).1 + 3 * (ab (m + n)).2 = _ ∧ (ab (m + n)).1 + 2 * (ab (m + n)).2 = _
    rw [h1, h2]
    show _ = (ab m).1 * (2 * (ab n).1 + 3 * (ab n).2) + 3 * ((ab m).2 * ((ab n).1 + 2 * (ab n).2)) ∧ _ = (ab m).1 * ((ab n).1 + 2 * (ab n).2) + (ab m).2 * (2 * (ab n).1 + 3 * (ab n).2)
    constructor <;> grind
theorem ab_norm : ∀ n, (ab n).1 * (ab n).1 - 3 * ((ab n).2 * (ab n).2) = 1
  | 0 => by decide
  | n + 1 => by
    have h := ab_norm n
    show (2 * (ab n).1 + 3 * (ab n).2) * (2 * (ab n).1 + 3 * (ab n).2) - 3 * (((ab n).1 + 2 * (ab n).2) * ((ab n).1 + 2 * (ab n).2)) = 1
    grind
theorem ab_two (n : Nat) : (ab (n + n)).1 = 2 * ((ab n).1 * (ab n).1) - 1 ∧ (ab (n + n)).2 = 2 * ((ab n).1 * (ab n).2) := by
  obtain ⟨h1, h2⟩ := ab_add n n
  have h := ab_norm n
  rw [h1, h2]
  constructor <;> grind
/-- ω to the power n is z, modulo q -/
def Is (q : Int) (n : Nat) (z : Int) : Prop := q ∣ (ab n).1 - z ∧ q ∣ (ab n).2
theorem Is.add {q : Int} {m n : Nat} {y z : Int} (h : Is q m y) (k : Is q n z) : Is q (m + n) (y * z) := by
  obtain ⟨h1, h2⟩ := ab_add m n
  obtain ⟨a, ha⟩ := h.1
  obtain ⟨b, hb⟩ := h.2
  obtain ⟨c, hc⟩ := k.1
  obtain ⟨d, hd⟩ := k.2
  refine ⟨⟨y * c + z * a + q * (a * c) + 3 * q * (b * d), ?_⟩, ⟨y * d + q * (a * d) + z * b + q * (b * c), ?_⟩⟩
  · rw [h1, hb, hd]
    grind
  · rw [h2, hb, hd]
    grind
theorem Is.mul {q : Int} {n : Nat} {z : Int} (h : Is q n z) : ∀ m, Is q (n * m) (z ^ m)
  | 0 => by
    rw [Nat.mul_zero, Int.pow_zero]
    exact ⟨by show q ∣ 1 - 1; exact ⟨0, by simp⟩, by show q ∣ 0; exact ⟨0, by simp⟩⟩
  | m + 1 => by
    rw [Nat.mul_succ, Int.pow_succ]
    exact (h.mul m).add h
theorem pig : ∀ (m n : Nat) (f : Nat → Nat), (∀ i, i < n → f i < m) → m < n → ∃ i j, i < j ∧ j < n ∧ f i = f j
  | 0, n, f, h, hn => absurd (h 0 hn) (by omega)
  | m + 1, n, f, h, hn => by
    have n1 : n - 1 < n := by omega
    by_cases q : ∃ i, i < n - 1 ∧ f i = f (n - 1)
    · obtain ⟨i, hi, e⟩ := q
      exact ⟨i, n - 1, hi, n1, e⟩
    · have q' : ∀ i, i < n - 1 → f i ≠ f (n - 1) := fun i hi e => q ⟨i, hi, e⟩
      have hl := h (n - 1) n1
      obtain ⟨i, j, h1, h2, h3⟩ := pig m (n - 1) (fun i => if f i < f (n - 1) then f i else f i - 1) (fun i hi => by
        have := h i (by omega)
        have := q' i hi
        split <;> omega) (by omega)
      have a := q' i (by omega)
      have b := q' j h2
      refine ⟨i, j, h1, by omega, ?_⟩
      split at h3 <;> split at h3 <;> omega
theorem two_part : ∀ (k d : Nat), 0 < d → d < 2 ^ k → ∃ e m, d = 2 ^ e * m ∧ m % 2 = 1 ∧ e < k
  | 0, d, h0, h1 => by simp at h1; omega
  | k + 1, d, h0, h1 => by
    by_cases q : d % 2 = 1
    · exact ⟨0, d, by simp, q, by omega⟩
    · obtain ⟨e, m, h2, h3, h4⟩ := two_part k (d / 2) (by omega) (by rw [Nat.pow_succ] at h1; omega)
      exact ⟨e + 1, m, by rw [Nat.pow_succ, Nat.mul_right_comm, ← h2]; omega, h3, by omega⟩
theorem neg_odd : ∀ m : Nat, m % 2 = 1 → (-1 : Int) ^ m = -1 := fun m h => by
  obtain ⟨t, rfl⟩ : ∃ t, m = 2 * t + 1 := ⟨m / 2, by omega⟩
  have : ∀ t : Nat, (-1 : Int) ^ (2 * t) = 1 := fun t => by
    induction t with
    | zero => rfl
    | succ t ih => rw [show 2 * (t + 1) = 2 * t + 1 + 1 by omega, Int.pow_succ, Int.pow_succ, ih]; rfl
  rw [Int.pow_succ, this]
  rfl
theorem one_pow' : ∀ m : Nat, (1 : Int) ^ m = 1
  | 0 => rfl
  | m + 1 => by rw [Int.pow_succ, one_pow' m]; rfl
/-- no divisor whose square is at most 2 ^ k - 1 -/
theorem no_div {k q : Nat} (hk : 3 ≤ k) (hq : 1 < q) (hd : q ∣ 2 ^ k - 1) (h : (q : Int) ∣ 2 * (ab (2 ^ (k - 2))).1) (hs : q * q ≤ 2 ^ k - 1) : False := by
  have hp : 0 < 2 ^ k := Nat.two_pow_pos k
  have odd : q % 2 = 1 := by
    obtain ⟨c, hc⟩ := hd
    obtain ⟨j, rfl⟩ : ∃ j, k = j + 1 := ⟨k - 1, by omega⟩
    rw [Nat.pow_succ] at hc
    have : 0 < 2 ^ j := Nat.two_pow_pos j
    have e1 : (q * c) % 2 = 1 := by omega
    rw [Nat.mul_mod] at e1
    rcases Nat.mod_two_eq_zero_or_one q with z | z
    · rw [z] at e1; simp at e1
    · exact z
  have dx : (q : Int) ∣ (ab (2 ^ (k - 2))).1 := by
    obtain ⟨c, hc⟩ := h
    obtain ⟨t, ht⟩ : ∃ t : Nat, q = 2 * t + 1 := ⟨q / 2, by omega⟩
    have hq : (q : Int) = 2 * (t : Int) + 1 := by omega
    refine ⟨(ab (2 ^ (k - 2))).1 - t * c, ?_⟩
    grind
  have e2 : 2 ^ (k - 1) = 2 ^ (k - 2) + 2 ^ (k - 2) := by
    rw [show k - 1 = k - 2 + 1 by omega, Nat.pow_succ]
    omega
  have neg : Is q (2 ^ (k - 1)) (-1) := by
    obtain ⟨h1, h2⟩ := ab_two (2 ^ (k - 2))
    rw [e2]
    obtain ⟨c, hc⟩ := dx
    refine ⟨⟨2 * ((ab (2 ^ (k - 2))).1 * c), ?_⟩, ⟨2 * (c * (ab (2 ^ (k - 2))).2), ?_⟩⟩
    · rw [h1, hc]
      grind
    · rw [h2, hc]
      grind
  have big : ∀ z : Int, 0 ≤ z % (q : Int) ∧ z % (q : Int) < q := fun z => ⟨Int.emod_nonneg z (by omega), Int.emod_lt_of_pos z (by omega)⟩
  obtain ⟨i, j, h1, h2, h3⟩ := pig (q * q) (2 ^ k) (fun n => ((ab n).1 % (q : Int)).toNat * q + ((ab n).2 % (q : Int)).toNat) (fun n _ => by
    have a := big (ab n).1
    have b := big (ab n).2
    have a' : ((ab n).1 % (q : Int)).toNat + 1 ≤ q := by omega
    have := Nat.mul_le_mul_right q a'
    rw [Nat.add_mul] at this
    show _ * q + _ < q * q
    omega) (by omega)
  have key : (ab i).1 % (q : Int) = (ab j).1 % (q : Int) ∧ (ab i).2 % (q : Int) = (ab j).2 % (q : Int) := by
    have a := big (ab i).1
    have b := big (ab i).2
    have c := big (ab j).1
    have d := big (ab j).2
    have e3 : ((ab i).2 % (q : Int)).toNat = ((ab j).2 % (q : Int)).toNat := by
      have := congrArg (· % q) h3
      simp only [Nat.mul_add_mod_self_right] at this
      rw [Nat.mod_eq_of_lt (by omega), Nat.mod_eq_of_lt (by omega)] at this
      exact this
    have e4 : ((ab i).1 % (q : Int)).toNat = ((ab j).1 % (q : Int)).toNat := by
      have : ((ab i).1 % (q : Int)).toNat * q = ((ab j).1 % (q : Int)).toNat * q := by omega
      exact Nat.eq_of_mul_eq_mul_right (by omega) this
    omega
  have s1 : (q : Int) ∣ (ab j).1 - (ab i).1 := Int.dvd_of_emod_eq_zero (Int.emod_eq_emod_iff_emod_sub_eq_zero.mp key.1.symm)
  have s2 : (q : Int) ∣ (ab j).2 - (ab i).2 := Int.dvd_of_emod_eq_zero (Int.emod_eq_emod_iff_emod_sub_eq_zero.mp key.2.symm)
  have one : Is q (j - i) 1 := by
    have ej : j = (j - i) + i := by omega
    obtain ⟨g1, g2⟩ := ab_add (j - i) i
    rw [← ej] at g1 g2
    have nm := ab_norm i
    obtain ⟨u, hu⟩ := s1
    obtain ⟨v, hv⟩ := s2
    refine ⟨⟨u * (ab i).1 - 3 * (v * (ab i).2), ?_⟩, ⟨v * (ab i).1 - u * (ab i).2, ?_⟩⟩
    · grind
    · grind
  obtain ⟨e, m, h5, h6, h7⟩ := two_part k (j - i) (by omega) (by omega)
  have a := one.mul (2 ^ (k - 1 - e))
  have b := neg.mul m
  rw [neg_odd m h6] at b
  rw [one_pow', h5] at a
  have e6 : 2 ^ e * m * 2 ^ (k - 1 - e) = 2 ^ (k - 1) * m := by
    rw [Nat.mul_right_comm, ← Nat.pow_add, show e + (k - 1 - e) = k - 1 by omega]
  rw [e6] at a
  obtain ⟨u, hu⟩ := a.1
  obtain ⟨v, hv⟩ := b.1
  have : (q : Int) * (v - u) = 2 := by
    rw [Int.mul_sub, ← hu, ← hv]
    omega
  have d2 : (q : Int) ∣ 2 := ⟨_, this.symm⟩
  have l2 := Int.le_of_dvd (by decide) d2
  omega
def step (M s : Nat) : Nat := (s * s + (M - 2)) % M
def it (M : Nat) : Nat → Nat → Nat
  | 0, s => s
  | n + 1, s => it M n (step M s)
theorem it_ok {M : Nat} (hM : 2 ≤ M) : ∀ (n i s : Nat), (M : Int) ∣ (s : Int) - 2 * (ab (2 ^ i)).1 → (M : Int) ∣ (it M n s : Int) - 2 * (ab (2 ^ (i + n))).1
  | 0, i, s, h => h
  | n + 1, i, s, h => by
    have : (M : Int) ∣ (step M s : Int) - 2 * (ab (2 ^ (i + 1))).1 := by
      obtain ⟨c, hc⟩ := h
      have e : ((step M s : Nat) : Int) = ((s : Int) * s + ((M : Int) - 2)) % M := by
        unfold step
        rw [Int.natCast_emod, Int.natCast_add, Int.natCast_mul, Int.natCast_sub hM]
        rfl
      rw [e]
      have em := Int.emod_def ((s : Int) * s + ((M : Int) - 2)) M
      rw [em]
      refine ⟨c * ((s : Int) + 2 * (ab (2 ^ i)).1) + 1 - ((s : Int) * s + ((M : Int) - 2)) / M, ?_⟩
      have hs : (s : Int) = M * c + 2 * (ab (2 ^ i)).1 := by omega
      have z : ∀ y w : Int, w = ((s : Int) * s + ((M : Int) - 2)) / M → (s : Int) = M * c + 2 * y → (s : Int) * s + ((M : Int) - 2) - M * w - 2 * (2 * (y * y) - 1) = M * (c * ((s : Int) + 2 * y) + 1 - w) := fun y w _ hy => by grind
      have e2 : (ab (2 ^ (i + 1))).1 = 2 * ((ab (2 ^ i)).1 * (ab (2 ^ i)).1) - 1 := by rw [Nat.pow_succ, Nat.mul_two, (ab_two _).1]
      rw [e2]
      exact z _ _ rfl hs
    have := it_ok hM n (i + 1) _ this
    rw [show i + 1 + n = i + (n + 1) by omega] at this
    exact this
theorem prime_of {k : Nat} (hk : 3 ≤ k) (h : it (2 ^ k - 1) (k - 2) 4 = 0) {q : Nat} (hq : 1 < q) (hd : q ∣ 2 ^ k - 1) : q = 2 ^ k - 1 := by
  have hp : 2 ^ 3 ≤ 2 ^ k := Nat.pow_le_pow_right (by decide) hk
  have M0 : 0 < 2 ^ k - 1 := by omega
  have w := it_ok (M := 2 ^ k - 1) (by omega) (k - 2) 0 4 ⟨0, by rw [Int.mul_zero]; decide⟩
  rw [h, Nat.zero_add] at w
  have w' : ((2 ^ k - 1 : Nat) : Int) ∣ 2 * (ab (2 ^ (k - 2))).1 := by
    obtain ⟨c, hc⟩ := w
    exact ⟨-c, by grind⟩
  refine Classical.byContradiction fun ne => ?_
  obtain ⟨r, hr⟩ := hd
  have r1 : 1 < r := by
    rcases r with _ | _ | r
    · omega
    · omega
    · omega
  have lift : ∀ {z : Nat}, z ∣ 2 ^ k - 1 → (z : Int) ∣ 2 * (ab (2 ^ (k - 2))).1 := fun hz => Int.dvd_trans (Int.natCast_dvd_natCast.mpr hz) w'
  by_cases c : q * q ≤ 2 ^ k - 1
  · exact no_div hk hq ⟨r, hr⟩ (lift ⟨r, hr⟩) c
  · have dr : r ∣ 2 ^ k - 1 := ⟨q, by rw [hr, Nat.mul_comm]⟩
    refine no_div hk r1 dr (lift dr) ?_
    have : r < q := Nat.lt_of_mul_lt_mul_left (a := q) (by omega)
    have := Nat.mul_le_mul_right r (Nat.le_of_lt this)
    omega
/-- a strict run -/
def run (M : Nat) (n : Nat) : Nat → Nat := Nat.rec (motive := fun _ => Nat → Nat) (fun s => s) (fun _ ih s => Nat.rec (motive := fun _ => Nat) (ih 0) (fun t _ => ih (Nat.succ t)) ((s * s + (M - 2)) % M)) n
theorem run_it (M : Nat) : ∀ n s, run M n s = it M n s
  | 0, _ => rfl
  | n + 1, s => by
    show (Nat.rec (motive := fun _ => Nat) (run M n 0) (fun t _ => run M n (Nat.succ t)) (step M s) : Nat) = it M n (step M s)
    cases step M s with
    | zero => exact run_it M n 0
    | succ t => exact run_it M n (t + 1)
theorem p127 : run (2 ^ 127 - 1) 125 4 = 0 := by decide +kernel
theorem p521 : run (2 ^ 521 - 1) 519 4 = 0 := by decide +kernel
theorem p1279 : run (2 ^ 1279 - 1) 1277 4 = 0 := by decide +kernel
theorem p2203 : run (2 ^ 2203 - 1) 2201 4 = 0 := by decide +kernel
theorem p9689 : run (2 ^ 9689 - 1) 9687 4 = 0 := by decide +kernel
theorem p4253 : run (2 ^ 4253 - 1) 4251 4 = 0 := by decide +kernel
end LL
namespace Gx
open Mx Px
/-! polynomials modulo a number, by values -/
theorem pI_ext {u v : List Int} (h : ∀ k, u.getD k 0 = v.getD k 0) (x : Rat) : pI u x = pI v x := pe_ext (fun k => by rw [ri_get, ri_get, h k]) x
theorem pI_coef {u v : List Int} (h : ∀ x, pI u x = pI v x) (k : Nat) : u.getD k 0 = v.getD k 0 := by
  have := pI_get (u := comb 1 u (-1) v) (fun x => by
    rw [pI_comb, h x]
    have o : ((1 : Int) : Rat) = 1 := rfl
    rw [Rat.intCast_neg, o]
    grind) k
  rw [comb_get] at this
  omega
theorem rc1 : ((1 : Int) : Rat) = 1 := rfl
theorem rc0 : ((0 : Int) : Rat) = 0 := rfl
def Dv (p : Int) (D F : List Int) : Prop := ∃ Q E : List Int, ∀ x, pI F x = pI D x * pI Q x + (p : Rat) * pI E x
theorem Dv.lin {p : Int} {D F H A B W E : List Int} (h : Dv p D F) (k : Dv p D H) (e : ∀ x, pI W x = pI A x * pI F x + pI B x * pI H x + (p : Rat) * pI E x) : Dv p D W := by
  obtain ⟨Q1, E1, h1⟩ := h
  obtain ⟨Q2, E2, h2⟩ := k
  refine ⟨comb 1 (mulL A Q1) 1 (mulL B Q2), comb 1 (comb 1 (mulL A E1) 1 (mulL B E2)) 1 E, fun x => ?_⟩
  rw [e, h1, h2, pI_comb, pI_comb, pI_comb, mulL_pI, mulL_pI, mulL_pI, mulL_pI, rc1]
  grind
theorem Dv.of_mul {p : Int} {D F Q : List Int} (h : ∀ x, pI F x = pI D x * pI Q x) : Dv p D F := ⟨Q, [], fun x => by rw [h, pI_nil]; grind⟩
theorem Dv.self (p : Int) (D : List Int) : Dv p D D := ⟨[1], [], fun x => by rw [pI_one, pI_nil, rc1]; grind⟩
theorem Dv.nil (p : Int) (D : List Int) : Dv p D [] := ⟨[], [], fun x => by rw [pI_nil]; grind⟩
theorem Dv.scale {p : Int} {D F W E : List Int} {a : Int} (h : Dv p D F) (e : ∀ x, pI W x = (a : Rat) * pI F x + (p : Rat) * pI E x) : Dv p D W :=
  h.lin (Dv.nil p D) (A := [a]) (B := []) (E := E) fun x => by rw [e, pI_one, pI_nil]; grind
theorem Dv.add {p : Int} {D F H W E : List Int} {a : Int} {B : List Int} (h : Dv p D F) (k : Dv p D H) (e : ∀ x, pI W x = (a : Rat) * pI F x + pI B x * pI H x + (p : Rat) * pI E x) : Dv p D W :=
  h.lin k (A := [a]) (B := B) (E := E) fun x => by rw [e, pI_one]
/-- primes -/
structure Pr (p : Int) : Prop where
  one : 1 < p
  d : ∀ q : Nat, 1 < q → q ∣ p.natAbs → q = p.natAbs
theorem bezN : ∀ a b : Nat, ∃ x y : Int, x * a + y * b = (Nat.gcd a b : Nat) := fun a b => by
  induction a, b using Nat.gcd.induction with
  | H0 n => exact ⟨0, 1, by simp⟩
  | H1 m n hm ih =>
    obtain ⟨x, y, h⟩ := ih
    refine ⟨y - x * (n / m : Nat), x, ?_⟩
    rw [Nat.gcd_rec, ← h]
    have e : (n : Int) = (m : Int) * (n / m : Nat) + (n % m : Nat) := by
      have := Nat.div_add_mod n m
      have h2 : ((m * (n / m) + n % m : Nat) : Int) = (n : Int) := by rw [this]
      rw [← h2, Int.natCast_add, Int.natCast_mul]
    generalize ((n / m : Nat) : Int) = q at *
    generalize ((n % m : Nat) : Int) = r at *
    rw [e]
    grind
theorem Pr.inv {p c : Int} (P : Pr p) (h : ¬ p ∣ c) : ∃ c' k : Int, c * c' = 1 + p * k := by
  have g : Nat.gcd c.natAbs p.natAbs = 1 := by
    refine Classical.byContradiction fun ne => ?_
    have g0 : Nat.gcd c.natAbs p.natAbs ∣ p.natAbs := Nat.gcd_dvd_right _ _
    have p0 := P.one
    have g1 : 0 < Nat.gcd c.natAbs p.natAbs := Nat.gcd_pos_of_pos_right _ (by omega)
    have e := P.d _ (by omega) g0
    have : p.natAbs ∣ c.natAbs := by
      have := Nat.gcd_dvd_left c.natAbs p.natAbs
      rwa [e] at this
    exact h (Int.natAbs_dvd_natAbs.mp this)
  obtain ⟨x, y, e⟩ := bezN c.natAbs p.natAbs
  rw [g] at e
  have pp : ((p.natAbs : Nat) : Int) = p := by have := P.one; omega
  rw [pp] at e
  rcases Int.natAbs_eq c with q | q
  · refine ⟨x, -y, ?_⟩
    rw [← q] at e
    have : ((1 : Nat) : Int) = 1 := rfl
    rw [this] at e
    grind
  · refine ⟨-x, -y, ?_⟩
    have : ((1 : Nat) : Int) = 1 := rfl
    rw [this] at e
    rw [q]
    grind
theorem Pr.mul {p a b : Int} (P : Pr p) (h : p ∣ a * b) : p ∣ a ∨ p ∣ b := by
  by_cases q : p ∣ a
  · exact .inl q
  · obtain ⟨c, k, e⟩ := P.inv q
    obtain ⟨m, hm⟩ := h
    refine .inr ⟨m * c - b * k, ?_⟩
    have : b * (a * c) = b * (1 + p * k) := by rw [e]
    grind
theorem Pr.ne {p : Int} (P : Pr p) {a b : Int} (ha : ¬ p ∣ a) (hb : ¬ p ∣ b) : ¬ p ∣ a * b := fun h => by
  rcases P.mul h with q | q
  · exact ha q
  · exact hb q
theorem Pr.of {k : Nat} (hk : 3 ≤ k) (h : LL.run (2 ^ k - 1) (k - 2) 4 = 0) : Pr ((2 : Int) ^ k - 1) := by
  have hp : 2 ^ 3 ≤ 2 ^ k := Nat.pow_le_pow_right (by decide) hk
  have e : ((2 : Int) ^ k - 1) = ((2 ^ k - 1 : Nat) : Int) := by
    rw [Int.natCast_sub (by omega), Int.natCast_pow]
    rfl
  rw [e]
  refine ⟨by omega, fun q hq hd => ?_⟩
  rw [Int.natAbs_natCast] at hd ⊢
  exact LL.prime_of hk (by rw [← LL.run_it]; exact h) hq hd
/-- D divides c F with a unit c -/
theorem Dv.unit {p : Int} (P : Pr p) {D F : List Int} {c : Int} (hc : ¬ p ∣ c) {W : List Int} (hW : ∀ x, pI W x = (c : Rat) * pI F x) (h : Dv p D W) : Dv p D F := by
  obtain ⟨c', k, e⟩ := P.inv hc
  refine h.scale (a := c') (E := comb (-k) F 0 []) fun x => ?_
  rw [hW, pI_comb, pI_nil, Rat.intCast_neg]
  have e2 : (c : Rat) * (c' : Rat) = 1 + (p : Rat) * (k : Rat) := by
    have : ((c * c' : Int) : Rat) = ((1 + p * k : Int) : Rat) := by rw [e]
    rw [Rat.intCast_mul, Rat.intCast_add, Rat.intCast_mul, rc1] at this
    exact this
  grind
/-- rows reduced modulo p: from 0 on and below p, the last one not 0 -/
structure Red (p : Int) (u : List Int) : Prop where
  lo : ∀ k, 0 ≤ u.getD k 0
  hi : ∀ k, u.getD k 0 < p
  t : u.getLast? ≠ some 0
def rdm (p : Int) (u : List Int) : List Int := trim (u.map fun x => x % p)
theorem map_getD {f : Int → Int} (h0 : f 0 = 0) (u : List Int) (k : Nat) : (u.map f).getD k 0 = f (u.getD k 0) := by
  rw [List.getD_eq_getElem?_getD, List.getElem?_map, List.getD_eq_getElem?_getD]
  cases u[k]? with
  | none => exact h0.symm
  | some y => rfl
theorem rdm_get (p : Int) (u : List Int) (k : Nat) : (rdm p u).getD k 0 = u.getD k 0 % p := by
  unfold rdm
  rw [trim_get, map_getD (Int.zero_emod p)]
theorem rdm_red {p : Int} (hp : 0 < p) (u : List Int) : Red p (rdm p u) := ⟨fun k => by rw [rdm_get]; exact Int.emod_nonneg _ (by omega), fun k => by rw [rdm_get]; exact Int.emod_lt_of_pos _ hp, trim_last _⟩
theorem cong_of {p : Int} {u v : List Int} (h : ∀ k, p ∣ u.getD k 0 - v.getD k 0) : ∃ E, ∀ x, pI u x = pI v x + (p : Rat) * pI E x := by
  refine ⟨(comb 1 u (-1) v).map fun x => x / p, fun x => ?_⟩
  have e : pI u x = pI (comb 1 v p ((comb 1 u (-1) v).map fun x => x / p)) x := pI_ext (fun k => by
    rw [comb_get, map_getD (Int.zero_ediv p), comb_get]
    have m := Int.mul_ediv_cancel' (h k)
    have : u.getD k 0 - v.getD k 0 = 1 * u.getD k 0 + -1 * v.getD k 0 := by omega
    rw [← this]
    omega) x
  rw [e, pI_comb, rc1]
  grind
theorem rdm_pI (p : Int) (u : List Int) : ∃ E, ∀ x, pI u x = pI (rdm p u) x + (p : Rat) * pI E x := cong_of fun k => by
  rw [rdm_get]
  have := Int.emod_add_mul_ediv (u.getD k 0) p
  exact ⟨u.getD k 0 / p, by omega⟩
/-- congruent rows have congruent items -/
theorem coef_cong {p : Int} {u v E : List Int} (h : ∀ x, pI u x = pI v x + (p : Rat) * pI E x) (k : Nat) : p ∣ u.getD k 0 - v.getD k 0 := by
  have := pI_coef (u := u) (v := comb 1 v p E) (fun x => by rw [h, pI_comb, rc1]; grind) k
  rw [comb_get] at this
  exact ⟨E.getD k 0, by omega⟩
theorem Red.small {p : Int} {u : List Int} (h : Red p u) (k : Nat) (d : p ∣ u.getD k 0) : u.getD k 0 = 0 := by
  have a := h.lo k
  have b := h.hi k
  rcases Int.lt_or_eq_of_le a with q | q
  · have := Int.le_of_dvd q d
    omega
  · exact q.symm
theorem last_getD {u : List Int} {z : Int} (h : u.getLast? = some z) : u.getD (u.length - 1) 0 = z ∧ 0 < u.length := by
  cases u with
  | nil => cases h
  | cons a r =>
    rw [List.getLast?_eq_getElem?] at h
    exact ⟨by rw [List.getD_eq_getElem?_getD, h]; rfl, by simp⟩
theorem top_ne {u : List Int} (t : u.getLast? ≠ some 0) (n : u ≠ []) : u.getD (u.length - 1) 0 ≠ 0 ∧ 0 < u.length := by
  cases e : u.getLast? with
  | none => exact (n (List.getLast?_eq_none_iff.mp e)).elim
  | some z =>
    obtain ⟨a, b⟩ := last_getD e
    exact ⟨fun q => t (by rw [e, ← a, q]), b⟩
theorem mulL_top : ∀ (u v : List Int), 0 < u.length → 0 < v.length → (mulL u v).getD (u.length - 1 + (v.length - 1)) 0 = u.getD (u.length - 1) 0 * v.getD (v.length - 1) 0
  | [a], v, _, hv => by
    show (comb a v 1 (0 :: [])).getD (0 + (v.length - 1)) 0 = a * _
    rw [comb_get, Nat.zero_add]
    have : ([0] : List Int).getD (v.length - 1) 0 = 0 := by
      cases v.length - 1 with
      | zero => rfl
      | succ n => rfl
    rw [this]
    omega
  | a :: b :: u, v, _, hv => by
    have ih := mulL_top (b :: u) v (by simp) hv
    show (comb a v 1 (0 :: mulL (b :: u) v)).getD ((b :: u).length + (v.length - 1)) 0 = (b :: u).getD ((b :: u).length - 1) 0 * _
    rw [comb_get, ← ih, getD_out (u := v) (by simp; omega)]
    have e : (b :: u).length + (v.length - 1) = ((b :: u).length - 1 + (v.length - 1)) + 1 := by simp; omega
    rw [e]
    show a * 0 + 1 * (mulL (b :: u) v).getD _ 0 = _
    omega
theorem mulL_out : ∀ (u v : List Int) (k : Nat), u.length + v.length ≤ k + 1 → 0 < v.length → (mulL u v).getD k 0 = 0
  | [], v, k, _, _ => by
    show ([] : List Int).getD k 0 = 0
    exact getD_out (Nat.zero_le _)
  | a :: u, v, k, h, hv => by
    show (comb a v 1 (0 :: mulL u v)).getD k 0 = 0
    have h : u.length + 1 + v.length ≤ k + 1 := h
    rw [comb_get, getD_out (u := v) (by omega)]
    cases k with
    | zero => omega
    | succ k =>
      show a * 0 + 1 * (mulL u v).getD k 0 = 0
      rw [mulL_out u v k (by omega) hv]
      omega
/-- a divisor modulo a prime is not longer -/
theorem Dv.len {p : Int} (P : Pr p) {D F : List Int} (h : Dv p D F) (hd : ¬ p ∣ D.getD (D.length - 1) 0) (d0 : 0 < D.length) (hF : ∃ k, ¬ p ∣ F.getD k 0) : ∃ k, D.length ≤ k + 1 ∧ ¬ p ∣ F.getD k 0 ∧ (∀ j, k < j → p ∣ F.getD j 0) ∧ ∃ Q : List Int, Red p Q ∧ D.length + Q.length = k + 2 ∧ ∃ E, ∀ x, pI F x = pI D x * pI Q x + (p : Rat) * pI E x := by
  obtain ⟨Q, E, e⟩ := h
  obtain ⟨E2, e2⟩ := rdm_pI p Q
  have p1 := P.one
  have R := rdm_red (p := p) (by omega) Q
  have e3 : ∀ x, pI F x = pI (mulL D (rdm p Q)) x + (p : Rat) * pI (comb 1 E 1 (mulL D E2)) x := fun x => by
    rw [e, e2, mulL_pI, pI_comb, mulL_pI, rc1]
    grind
  have cg := coef_cong e3
  by_cases qn : rdm p Q = []
  · obtain ⟨k, hk⟩ := hF
    have := cg k
    rw [qn] at this
    have z : (mulL D []).getD k 0 = 0 := pI_get (fun x => by rw [mulL_pI, pI_nil]; grind) k
    rw [z] at this
    exact (hk (by simpa using this)).elim
  · obtain ⟨tn, ql⟩ := top_ne R.t qn
    have tp := mulL_top D (rdm p Q) d0 ql
    refine ⟨D.length - 1 + ((rdm p Q).length - 1), by omega, fun dv => ?_, fun j hj => ?_, rdm p Q, R, by omega, comb 1 E 1 (mulL D E2), fun x => by rw [e3 x, mulL_pI]⟩
    · have := cg (D.length - 1 + ((rdm p Q).length - 1))
      rw [tp] at this
      have m : p ∣ D.getD (D.length - 1) 0 * (rdm p Q).getD ((rdm p Q).length - 1) 0 := by
        obtain ⟨a, ha⟩ := dv
        obtain ⟨b, hb⟩ := this
        exact ⟨a - b, by rw [Int.mul_sub]; omega⟩
      rcases P.mul m with q | q
      · exact hd q
      · exact tn (R.small _ q)
    · have := cg j
      rw [mulL_out _ _ _ (by omega) ql] at this
      simpa using this
end Gx
namespace Gx
open Mx Px
/-! common divisors of polynomials with whole numbers -/
def sft (s : Nat) (g : List Int) : List Int := List.replicate s 0 ++ g
theorem sft_pI (g : List Int) (x : Rat) : ∀ s, pI (sft s g) x = x ^ s * pI g x
  | 0 => by
    show pI g x = _
    rw [Rat.pow_zero]
    grind
  | s + 1 => by
    show pI (0 :: sft s g) x = _
    rw [pI_cons, sft_pI g x s, rc0, Rat.pow_succ]
    grind
theorem sft_n1 (g : List Int) : ∀ s, n1 (sft s g) = n1 g
  | 0 => rfl
  | s + 1 => by
    show n1 (0 :: sft s g) = _
    rw [n1_cons, sft_n1 g s]
    simp
theorem sft_len (s : Nat) (g : List Int) : (sft s g).length = s + g.length := by unfold sft; rw [List.length_append, List.length_replicate]
theorem sft_get (s : Nat) (g : List Int) (k : Nat) : (sft s g).getD (s + k) 0 = g.getD k 0 := by
  unfold sft
  rw [List.getD_eq_getElem?_getD, List.getElem?_append_right (by rw [List.length_replicate]; omega), List.length_replicate, List.getD_eq_getElem?_getD, Nat.add_sub_cancel_left]
theorem len_of {u : List Int} (t : u.getLast? ≠ some 0) {n : Nat} (h : ∀ k, n ≤ k → u.getD k 0 = 0) : u.length ≤ n := by
  by_cases e : u = []
  · rw [e]
    exact Nat.zero_le _
  · obtain ⟨a, b⟩ := top_ne t e
    rcases Nat.lt_or_ge n u.length with q | q
    · exact (a (h _ (by omega))).elim
    · exact q
def lc (u : List Int) : Int := u.getD (u.length - 1) 0
def red1 (f g : List Int) : List Int := trim (comb (lc g) f (- lc f) (sft (f.length - g.length) g))
theorem lc_n1 (u : List Int) : (lc u).natAbs ≤ n1 u := n1_get u _
theorem red1_len {f g : List Int} (hg : g ≠ []) (h : g.length ≤ f.length) : (red1 f g).length < f.length := by
  have g0 : 0 < g.length := List.length_pos_iff.mpr hg
  have : (red1 f g).length ≤ f.length - 1 := len_of (trim_last _) fun k hk => by
    rw [trim_get, comb_get]
    by_cases q : f.length ≤ k
    · rw [getD_out (u := f) q, getD_out (u := sft _ g) (by rw [sft_len]; omega)]
      omega
    · have e : k = (f.length - g.length) + (g.length - 1) := by omega
      have e2 : k = f.length - 1 := by omega
      rw [e, sft_get, ← e, e2]
      show lc g * lc f + -lc f * lc g = 0
      grind
  omega
theorem red1_n1 {f g : List Int} {a b : Nat} (hf : n1 f < 2 ^ a) (hg : n1 g < 2 ^ b) : n1 (red1 f g) < 2 ^ (a + (b + 1)) := by
  have h1 := n1_trim (comb (lc g) f (- lc f) (sft (f.length - g.length) g))
  have h2 := n1_comb (lc g) f (- lc f) (sft (f.length - g.length) g)
  rw [sft_n1, Int.natAbs_neg] at h2
  have h3 : (lc g).natAbs * n1 f < 2 ^ (b + a) := mul_bd (Nat.lt_of_le_of_lt (lc_n1 g) hg) hf
  have h4 : (lc f).natAbs * n1 g < 2 ^ (a + b) := mul_bd (Nat.lt_of_le_of_lt (lc_n1 f) hf) hg
  have h5 : 2 ^ (a + (b + 1)) = 2 ^ (a + b) + 2 ^ (a + b) := by rw [show a + (b + 1) = a + b + 1 by omega, Nat.pow_succ]; omega
  rw [Nat.add_comm b a] at h3
  unfold red1
  omega
theorem red1_pI (f g : List Int) (x : Rat) : pI (red1 f g) x = (lc g : Rat) * pI f x - (lc f : Rat) * (x ^ (f.length - g.length) * pI g x) := by
  unfold red1
  rw [pI_trim, pI_comb, sft_pI, Rat.intCast_neg]
  grind
theorem prem : ∀ (n : Nat) (f g : List Int) (a b : Nat), f.length ≤ n → g ≠ [] → g.getLast? ≠ some 0 → f.getLast? ≠ some 0 → n1 f < 2 ^ a → n1 g < 2 ^ b →
    ∃ (c : Int) (Q r : List Int), c ≠ 0 ∧ (∀ x, (c : Rat) * pI f x = pI Q x * pI g x + pI r x) ∧ r.getLast? ≠ some 0 ∧ r.length < g.length ∧ n1 r < 2 ^ (a + (f.length + 1 - g.length) * (b + 1)) := by
  intro n
  induction n with
  | zero =>
    intro f g a b hn hg tg tf ha hb
    have g0 : 0 < g.length := List.length_pos_iff.mpr hg
    refine ⟨1, [], f, by decide, fun x => by rw [rc1, pI_nil]; grind, tf, by omega, ?_⟩
    exact pow_up ha (Nat.le_add_right _ _)
  | succ n ih =>
    intro f g a b hn hg tg tf ha hb
    rcases Nat.lt_or_ge f.length g.length with q | q
    · refine ⟨1, [], f, by decide, fun x => by rw [rc1, pI_nil]; grind, tf, q, pow_up ha (Nat.le_add_right _ _)⟩
    · have hl := red1_len hg q
      have g0 : 0 < g.length := List.length_pos_iff.mpr hg
      obtain ⟨c, Q, r, c0, e, tr, rl, rn⟩ := ih (red1 f g) g (a + (b + 1)) b (by omega) hg tg (trim_last _) (red1_n1 ha hb) hb
      have lg0 := (top_ne tg hg).1
      refine ⟨c * lc g, comb 1 Q (c * lc f) (sft (f.length - g.length) [1]), r, Int.mul_ne_zero c0 lg0, fun x => ?_, tr, rl, pow_up rn ?_⟩
      · have := e x
        rw [red1_pI] at this
        rw [pI_comb, sft_pI, pI_one, rc1, Rat.intCast_mul, Rat.intCast_mul]
        grind
      · have h1 : (red1 f g).length + 1 - g.length + 1 ≤ f.length + 1 - g.length := by omega
        have h2 := Nat.mul_le_mul_right (b + 1) h1
        rw [Nat.add_mul, Nat.one_mul] at h2
        omega
def bt (h : Nat) : Nat → Nat
  | 0 => h
  | 1 => h
  | i + 2 => bt h i + 2 * bt h (i + 1) + 2
theorem bt_le (h : Nat) : ∀ i, bt h i ≤ bt h (i + 1)
  | 0 => Nat.le_refl _
  | i + 1 => by
    show bt h (i + 1) ≤ bt h i + 2 * bt h (i + 1) + 2
    omega
theorem bt_mono (h : Nat) {i j : Nat} (l : i ≤ j) : bt h i ≤ bt h j := by
  induction j with
  | zero => rw [show i = 0 by omega]; exact Nat.le_refl _
  | succ j ih =>
    by_cases q : i ≤ j
    · exact Nat.le_trans (ih q) (bt_le h j)
    · rw [show i = j + 1 by omega]
      exact Nat.le_refl _
theorem bt_gap (h i : Nat) : ∀ e, bt h i + (e + 2) * (bt h (i + 1) + 1) ≤ bt h (i + 1 + e + 1)
  | 0 => by
    show _ ≤ bt h i + 2 * bt h (i + 1) + 2
    omega
  | e + 1 => by
    have ih := bt_gap h i e
    have m1 : bt h (i + 1) ≤ bt h (i + 1 + e) := bt_mono h (by omega)
    have m2 := bt_le h (i + 1 + e)
    have e1 : bt h (i + 1 + (e + 1) + 1) = bt h (i + 1 + e) + 2 * bt h (i + 1 + e + 1) + 2 := rfl
    have e2 : (e + 1 + 2) * (bt h (i + 1) + 1) = (e + 2) * (bt h (i + 1) + 1) + (bt h (i + 1) + 1) := by rw [show e + 1 + 2 = (e + 2) + 1 by omega, Nat.add_mul, Nat.one_mul]
    omega
/-! Gauss -/
theorem prime_div : ∀ (m n : Nat), n ≤ m → 1 < n → ∃ q : Nat, Pr (q : Int) ∧ q ∣ n
  | 0, n, h, h1 => by omega
  | m + 1, n, h, h1 => by
    by_cases p : ∀ q : Nat, 1 < q → q ∣ n → q = n
    · exact ⟨n, ⟨by omega, fun q h1 h2 => by rw [Int.natAbs_natCast] at h2 ⊢; exact p q h1 h2⟩, Nat.dvd_refl _⟩
    · obtain ⟨q, hq⟩ : ∃ q : Nat, ¬ (1 < q → q ∣ n → q = n) := Classical.byContradiction fun no => p fun q => Classical.byContradiction fun n2 => no ⟨q, n2⟩
      have q1 : 1 < q := Classical.byContradiction fun z => hq fun a => (z a).elim
      have qd : q ∣ n := Classical.byContradiction fun z => hq fun _ a => (z a).elim
      have qn : q ≠ n := fun z => hq fun _ _ => z
      have := Nat.le_of_dvd (by omega) qd
      obtain ⟨r, hr, rd⟩ := prime_div m q (by omega) q1
      exact ⟨r, hr, Nat.dvd_trans rd qd⟩
theorem gauss {p : Int} (P : Pr p) {u v : List Int} (h : ∀ k, p ∣ (mulL u v).getD k 0) : (∀ k, p ∣ u.getD k 0) ∨ ∀ k, p ∣ v.getD k 0 := by
  have p1 := P.one
  obtain ⟨E1, e1⟩ := rdm_pI p u
  obtain ⟨E2, e2⟩ := rdm_pI p v
  have e3 : ∀ x, pI (mulL u v) x = pI (mulL (rdm p u) (rdm p v)) x + (p : Rat) * pI (comb 1 (mulL u E2) 1 (mulL E1 (rdm p v))) x := fun x => by
    rw [mulL_pI, mulL_pI, pI_comb, mulL_pI, mulL_pI, rc1, e1, e2]
    grind
  have nil : ∀ {w : List Int}, rdm p w = [] → ∀ k, p ∣ w.getD k 0 := fun {w} hw k => by
    have := rdm_get p w k
    rw [hw, getD_out (u := []) (Nat.zero_le _)] at this
    exact Int.dvd_of_emod_eq_zero this.symm
  by_cases q1 : rdm p u = []
  · exact .inl (nil q1)
  · by_cases q2 : rdm p v = []
    · exact .inr (nil q2)
    · exfalso
      have R1 := rdm_red (p := p) (by omega) u
      have R2 := rdm_red (p := p) (by omega) v
      obtain ⟨a1, b1⟩ := top_ne R1.t q1
      obtain ⟨a2, b2⟩ := top_ne R2.t q2
      have tp := mulL_top _ _ b1 b2
      have c := coef_cong e3 ((rdm p u).length - 1 + ((rdm p v).length - 1))
      rw [tp] at c
      have d := h ((rdm p u).length - 1 + ((rdm p v).length - 1))
      have m : p ∣ (rdm p u).getD ((rdm p u).length - 1) 0 * (rdm p v).getD ((rdm p v).length - 1) 0 := by
        obtain ⟨a, ha⟩ := c
        obtain ⟨b, hb⟩ := d
        exact ⟨b - a, by rw [Int.mul_sub]; omega⟩
      rcases P.mul m with z | z
      · exact a1 (R1.small _ z)
      · exact a2 (R2.small _ z)
theorem all_dvd {d : Int} {u : List Int} (h : ∀ k, d ∣ u.getD k 0) : d.natAbs ∣ gcdL u := by
  have := dvd_gcdL (d := d) (a := 1) (v := u) fun y hy => by
    obtain ⟨k, hk⟩ := mem_get hy
    rw [Int.one_mul, ← hk]
    exact h k
  simpa using this
theorem prim_div : ∀ (m : Nat) (c : Int) (f G K : List Int), c.natAbs ≤ m → c ≠ 0 → gcdL G = 1 → (∀ x, (c : Rat) * pI f x = pI G x * pI K x) → ∃ Q : List Int, ∀ x, pI f x = pI G x * pI Q x
  | 0, c, f, G, K, hm, c0, _, _ => absurd c0 (by simp; omega)
  | m + 1, c, f, G, K, hm, c0, hG, h => by
    by_cases q : c.natAbs = 1
    · rcases Int.natAbs_eq c with z | z
      · rw [q] at z
        refine ⟨K, fun x => ?_⟩
        have := h x
        rw [z] at this
        have o : (((1 : Nat) : Int) : Rat) = 1 := rfl
        rw [o] at this
        grind
      · rw [q] at z
        refine ⟨comb (-1) K 0 [], fun x => ?_⟩
        have := h x
        rw [z] at this
        have o : ((-((1 : Nat) : Int) : Int) : Rat) = -1 := rfl
        rw [o] at this
        have o2 : ((-1 : Int) : Rat) = -1 := rfl
        rw [pI_comb, pI_nil, o2]
        grind
    · obtain ⟨r, P, rd⟩ := prime_div c.natAbs c.natAbs (Nat.le_refl _) (by omega)
      obtain ⟨e, he⟩ : (r : Int) ∣ c := Int.natAbs_dvd_natAbs.mp (by rw [Int.natAbs_natCast]; exact rd)
      have r1 := P.one
      have cf : ∀ k, (r : Int) ∣ (mulL G K).getD k 0 := fun k => by
        have := pI_coef (u := mulL G K) (v := comb c f 0 []) (fun x => by rw [mulL_pI, pI_comb, pI_nil, ← h x]; grind) k
        rw [this, comb_get, he]
        exact ⟨e * f.getD k 0, by grind⟩
      rcases gauss P cf with z | z
      · have := all_dvd z
        rw [hG, Int.natAbs_natCast] at this
        have := Nat.le_of_dvd (by decide) this
        omega
      · have e0 : e ≠ 0 := fun w => by rw [w] at he; simp at he; exact c0 he
        have em : e.natAbs ≤ m := by
          rw [he, Int.natAbs_mul, Int.natAbs_natCast] at hm
          have : 1 * e.natAbs < r * e.natAbs := Nat.mul_lt_mul_of_pos_right (by omega) (by omega)
          omega
        refine prim_div m e f G (K.map fun x => x / (r : Int)) em e0 hG fun x => ?_
        have kv : pI K x = (r : Rat) * pI (K.map fun x => x / (r : Int)) x := by
          have : pI K x = pI (comb (r : Int) (K.map fun x => x / (r : Int)) 0 []) x := pI_ext (fun k => by
            rw [comb_get, map_getD (f := fun x => x / (r : Int)) (Int.zero_ediv _)]
            have := Int.mul_ediv_cancel' (z k)
            omega) x
          rw [this, pI_comb, pI_nil, Rat.intCast_natCast]
          grind
        have := h x
        rw [kv, he, Rat.intCast_mul, Rat.intCast_natCast] at this
        have rn : (r : Rat) ≠ 0 := by
          have := ratInt_ne (a := (r : Int)) (by omega)
          rwa [Rat.intCast_natCast] at this
        have : (r : Rat) * ((e : Rat) * pI f x - pI G x * pI (K.map fun x => x / (r : Int)) x) = 0 := by grind
        rcases Rat.mul_eq_zero.mp this with w | w
        · exact (rn w).elim
        · grind
/-- the common divisor, and how it is made -/
structure IsG (f g G : List Int) (B : Nat) : Prop where
  pr : gcdL G = 1
  ld : 0 < lc G
  t : G.getLast? ≠ some 0
  n : n1 G < 2 ^ B
  df : ∃ Q, ∀ x, pI f x = pI G x * pI Q x
  dg : ∃ Q, ∀ x, pI g x = pI G x * pI Q x
  bz : ∃ (U V : List Int) (R : Int), R ≠ 0 ∧ R.natAbs < 2 ^ B ∧ ∀ x, pI U x * pI f x + pI V x * pI g x = (R : Rat) * pI G x
theorem IsG.up {f g G : List Int} {B C : Nat} (h : IsG f g G B) (l : B ≤ C) : IsG f g G C := by
  obtain ⟨U, V, R, R0, Rb, e⟩ := h.bz
  exact ⟨h.pr, h.ld, h.t, pow_up h.n l, h.df, h.dg, U, V, R, R0, pow_up Rb l, e⟩
theorem IsG.symm {f g G : List Int} {B : Nat} (h : IsG f g G B) : IsG g f G B := by
  obtain ⟨U, V, R, R0, Rb, e⟩ := h.bz
  exact ⟨h.pr, h.ld, h.t, h.n, h.dg, h.df, V, U, R, R0, Rb, fun x => by rw [← e x]; grind⟩
/-- reduced: without a common divisor, the lead above 0 -/
def rdc (f : List Int) : List Int := f.map fun x => x / (if lc f < 0 then - ((gcdL f : Nat) : Int) else ((gcdL f : Nat) : Int))
theorem rdc_spec {f : List Int} (tf : f.getLast? ≠ some 0) (hf : f ≠ []) : gcdL (rdc f) = 1 ∧ 0 < lc (rdc f) ∧ (rdc f).getLast? ≠ some 0 ∧ n1 (rdc f) ≤ n1 f ∧ (rdc f).length = f.length ∧
    ∃ s : Int, s ≠ 0 ∧ s.natAbs ≤ n1 f ∧ (∀ x, pI f x = (s : Rat) * pI (rdc f) x) ∧ ∀ k, f.getD k 0 = s * (rdc f).getD k 0 := by
  obtain ⟨l0, ln⟩ := top_ne tf hf
  have nz : ∃ x ∈ f, x ≠ 0 := ⟨_, mem_getD l0, l0⟩
  have gp := gcdL_pos nz
  have dv : ∀ k, ((gcdL f : Nat) : Int) ∣ f.getD k 0 := fun k => by
    by_cases hk : k < f.length
    · exact gcdL_dvd (in_getD hk)
    · rw [getD_out (u := f) (by omega)]
      exact ⟨0, by simp⟩
  obtain ⟨s, hs⟩ : ∃ s : Int, s = if lc f < 0 then - ((gcdL f : Nat) : Int) else ((gcdL f : Nat) : Int) := ⟨_, rfl⟩
  have er : rdc f = f.map fun x => x / s := by rw [hs]; rfl
  have s0 : s ≠ 0 := by rw [hs]; split <;> omega
  have sa : s.natAbs = gcdL f := by rw [hs]; split <;> omega
  have ds : ∀ k, s ∣ f.getD k 0 := fun k => by
    have := dv k
    rw [hs]
    split
    · exact Int.neg_dvd.mpr this
    · exact this
  have len : (rdc f).length = f.length := by rw [er, List.length_map]
  have get : ∀ k, f.getD k 0 = s * (rdc f).getD k 0 := fun k => by
    rw [er, map_getD (Int.zero_ediv s), Int.mul_ediv_cancel' (ds k)]
  have pv : ∀ x, pI f x = (s : Rat) * pI (rdc f) x := fun x => by
    have := pI_ext (u := f) (v := comb s (rdc f) 0 []) (fun k => by rw [comb_get, get k]; omega) x
    rw [this, pI_comb, pI_nil]
    grind
  have lcp : 0 < lc (rdc f) := by
    have e := get (f.length - 1)
    have el : lc f = s * lc (rdc f) := by
      unfold lc
      rw [len]
      exact e
    have l0' : lc f ≠ 0 := l0
    rcases Int.lt_trichotomy (lc (rdc f)) 0 with q | q | q
    · exfalso
      by_cases w : lc f < 0
      · rw [hs, if_pos w] at el
        have := Int.mul_pos_of_neg_of_neg (show - ((gcdL f : Nat) : Int) < 0 by omega) q
        omega
      · rw [hs, if_neg w] at el
        have := Int.mul_neg_of_pos_of_neg (show 0 < ((gcdL f : Nat) : Int) by omega) q
        omega
    · rw [q] at el
      omega
    · exact q
  have g1 : gcdL (rdc f) = 1 := by
    have := gcdL_scale s (rdc f)
    have e : (rdc f).map (fun x => s * x) = f := by
      refine List.ext_getElem? fun k => ?_
      rw [List.getElem?_map]
      by_cases hk : k < f.length
      · have := get k
        rw [List.getD_eq_getElem?_getD, List.getD_eq_getElem?_getD, List.getElem?_eq_getElem hk, List.getElem?_eq_getElem (by rw [len]; exact hk)] at this
        rw [List.getElem?_eq_getElem hk, List.getElem?_eq_getElem (by rw [len]; exact hk)]
        exact congrArg some this.symm
      · rw [List.getElem?_eq_none (by omega), List.getElem?_eq_none (by omega)]
        rfl
    rw [e, sa] at this
    exact Nat.eq_of_mul_eq_mul_left gp (by rw [Nat.mul_one]; exact this.symm)
  refine ⟨g1, lcp, fun z => ?_, ?_, len, s, s0, ?_, pv, get⟩
  · have := (last_getD z).1
    unfold lc at lcp
    omega
  · rw [er]
    have : ∀ u : List Int, n1 (u.map fun x => x / s) ≤ n1 u := fun u => by
      induction u with
      | nil => exact Nat.le_refl _
      | cons a u ih =>
        have h : (a / s).natAbs ≤ a.natAbs := Int.natAbs_ediv_le_natAbs a s
        show (a / s).natAbs + _ ≤ a.natAbs + _
        omega
    exact this f
  · rw [sa]
    have h1 := Int.natAbs_dvd_natAbs.mpr (dv (f.length - 1))
    rw [Int.natAbs_natCast] at h1
    have := Nat.le_of_dvd (by omega) h1
    have := n1_get f (f.length - 1)
    omega
theorem euc : ∀ (n : Nat) (f g : List Int) (i L h : Nat), g.length ≤ n → f.length + i = L → g.length < f.length → f.getLast? ≠ some 0 → g.getLast? ≠ some 0 → n1 f < 2 ^ bt h i → n1 g < 2 ^ bt h (i + 1) → ∃ G, IsG f g G (bt h (L - 1)) := by
  intro n
  have base : ∀ (f : List Int) (i L h : Nat), f.length + i = L → 0 < f.length → f.getLast? ≠ some 0 → n1 f < 2 ^ bt h i → ∃ G, IsG f [] G (bt h (L - 1)) := fun f i L h hL h0 tf hf => by
    have fn : f ≠ [] := fun z => by rw [z] at h0; simp at h0
    obtain ⟨a, b, c, d, _, s, s0, sb, pv, _⟩ := rdc_spec tf fn
    have m := bt_mono h (show i ≤ L - 1 by omega)
    have hf := pow_up hf m
    refine ⟨rdc f, a, b, c, Nat.lt_of_le_of_lt d hf, ⟨[s], fun x => by rw [pv, pI_one]; grind⟩, ⟨[], fun x => by rw [pI_nil]; grind⟩, [1], [], s, s0, Nat.lt_of_le_of_lt sb hf, fun x => by rw [pI_one, pI_nil, rc1, ← pv]; grind⟩
  induction n with
  | zero =>
    intro f g i L h hn hL hl tf tg hf hg
    obtain rfl : g = [] := List.length_eq_zero_iff.mp (by omega)
    exact base f i L h hL (by omega) tf hf
  | succ n ih =>
    intro f g i L h hn hL hl tf tg hf hg
    by_cases gn : g = []
    · rw [gn]
      exact base f i L h hL (by omega) tf hf
    · have g0 : 0 < g.length := List.length_pos_iff.mpr gn
      obtain ⟨c, Q, r, c0, e, tr, rl, rn⟩ := prem f.length f g (bt h i) (bt h (i + 1)) (Nat.le_refl _) gn tg tf hf hg
      obtain ⟨j, hj⟩ : ∃ j, j = L - g.length := ⟨_, rfl⟩
      obtain ⟨k, hk⟩ : ∃ k, j = i + 1 + k := ⟨j - (i + 1), by omega⟩
      have gap := bt_gap h i k
      have e1 : f.length + 1 - g.length = k + 2 := by omega
      rw [e1] at rn
      have rn2 : n1 r < 2 ^ bt h (j + 1) := pow_up rn (by rw [hk]; exact gap)
      have gn2 : n1 g < 2 ^ bt h j := pow_up hg (bt_mono h (by omega))
      obtain ⟨G, I⟩ := ih g r j L h (by omega) (by omega) rl tg tr gn2 rn2
      obtain ⟨Qg, eg⟩ := I.df
      obtain ⟨Qr, er⟩ := I.dg
      obtain ⟨U, V, R, R0, Rb, eb⟩ := I.bz
      have ef := prim_div c.natAbs c f G (comb 1 (mulL Q Qg) 1 Qr) (Nat.le_refl _) c0 I.pr fun x => by
        rw [e, eg, er, pI_comb, mulL_pI, rc1]
        grind
      refine ⟨G, I.pr, I.ld, I.t, I.n, ef, ⟨Qg, eg⟩, comb c V 0 [], comb 1 U (-1) (mulL V Q), R, R0, Rb, fun x => ?_⟩
      have m1 : ((-1 : Int) : Rat) = -1 := rfl
      rw [← eb x, pI_comb, pI_comb, pI_nil, mulL_pI, rc1, m1]
      have := e x
      grind
theorem isg {f g : List Int} {h L : Nat} (tf : f.getLast? ≠ some 0) (tg : g.getLast? ≠ some 0) (hf : n1 f < 2 ^ h) (hg : n1 g < 2 ^ h) (lf : f.length ≤ L) (lg : g.length ≤ L) (n : f ≠ [] ∨ g ≠ []) : ∃ G, IsG f g G (bt (2 * h + 1) (L - 1)) := by
  have key : ∀ (f g : List Int) (k : Nat), f.length ≤ L → g.length < f.length → f.getLast? ≠ some 0 → g.getLast? ≠ some 0 → n1 f < 2 ^ (2 * h + 1) → n1 g < 2 ^ (2 * h + 1) → ∃ G, IsG f g G (bt (2 * h + 1) (L - 1)) := fun f g _ l1 l2 t1 t2 n1' n2' => by
    obtain ⟨G, I⟩ := euc g.length f g 0 f.length (2 * h + 1) (Nat.le_refl _) rfl l2 t1 t2 n1' n2'
    exact ⟨G, I.up (bt_mono _ (by omega))⟩
  have u : ∀ {x : Nat}, x < 2 ^ h → x < 2 ^ (2 * h + 1) := fun hx => pow_up hx (by omega)
  rcases Nat.lt_trichotomy g.length f.length with q | q | q
  · exact key f g 0 lf q tf tg (u hf) (u hg)
  · have gn : g ≠ [] := fun z => by
      rw [z] at q
      rcases n with w | w
      · exact w (List.length_eq_zero_iff.mp q.symm)
      · exact w z
    obtain ⟨c, Q, r, c0, e, tr, rl, rn⟩ := prem f.length f g h h (Nat.le_refl _) gn tg tf hf hg
    rw [show f.length + 1 - g.length = 1 by omega, Nat.one_mul] at rn
    obtain ⟨G, I⟩ := key g r 0 lg rl tg tr (u hg) (by rw [show 2 * h + 1 = h + (h + 1) by omega]; exact rn)
    obtain ⟨Qg, eg⟩ := I.df
    obtain ⟨Qr, er⟩ := I.dg
    obtain ⟨U, V, R, R0, Rb, eb⟩ := I.bz
    have ef := prim_div c.natAbs c f G (comb 1 (mulL Q Qg) 1 Qr) (Nat.le_refl _) c0 I.pr fun x => by
      rw [e, eg, er, pI_comb, mulL_pI, rc1]
      grind
    refine ⟨G, I.pr, I.ld, I.t, I.n, ef, ⟨Qg, eg⟩, comb c V 0 [], comb 1 U (-1) (mulL V Q), R, R0, Rb, fun x => ?_⟩
    have m1 : ((-1 : Int) : Rat) = -1 := rfl
    rw [← eb x, pI_comb, pI_comb, pI_nil, mulL_pI, rc1, m1]
    have := e x
    grind
  · obtain ⟨G, I⟩ := key g f 0 lg q tg tf (u hg) (u hf)
    exact ⟨G, I.symm⟩
end Gx
namespace Gx
open Mx Px
theorem ne_lc {u : List Int} (h : lc u ≠ 0) : u ≠ [] := fun z => h (by rw [z]; rfl)
theorem lc_ne {u : List Int} (t : u.getLast? ≠ some 0) (n : u ≠ []) : lc u ≠ 0 := (top_ne t n).1
/-- the lead of a product -/
theorem lc_mul {f G Q : List Int} (tf : f.getLast? ≠ some 0) (hf : f ≠ []) (hG : lc G ≠ 0) (h : ∀ x, pI f x = pI G x * pI Q x) : ∃ z : List Int, z.getLast? ≠ some 0 ∧ z ≠ [] ∧ lc f = lc G * lc z ∧ f.length + 1 = G.length + z.length ∧ ∀ x, pI f x = pI G x * pI z x := by
  have e : ∀ x, pI f x = pI (mulL G (trim Q)) x := fun x => by rw [mulL_pI, pI_trim, h]
  have ec := pI_coef e
  have tq := trim_last Q
  have Gl := List.length_pos_iff.mpr (ne_lc hG)
  by_cases q : trim Q = []
  · exfalso
    have := ec (f.length - 1)
    have z : (mulL G (trim Q)).getD (f.length - 1) 0 = 0 := pI_get (fun x => by rw [mulL_pI, q, pI_nil]; grind) _
    rw [z] at this
    exact lc_ne tf hf this
  · obtain ⟨qn, ql⟩ := top_ne tq q
    have tp := mulL_top G (trim Q) Gl ql
    have k1 := ec (G.length - 1 + ((trim Q).length - 1))
    rw [tp] at k1
    have nz : f.getD (G.length - 1 + ((trim Q).length - 1)) 0 ≠ 0 := by
      rw [k1]
      exact Int.mul_ne_zero hG qn
    have h1 : G.length - 1 + ((trim Q).length - 1) < f.length := by
      rcases Nat.lt_or_ge (G.length - 1 + ((trim Q).length - 1)) f.length with w | w
      · exact w
      · exact (nz (getD_out w)).elim
    have h2 : f.length ≤ G.length - 1 + ((trim Q).length - 1) + 1 := by
      rcases Nat.lt_or_ge (G.length - 1 + ((trim Q).length - 1) + 1) f.length with w | w
      · have := ec (f.length - 1)
        rw [mulL_out _ _ _ (by omega) ql] at this
        exact (lc_ne tf hf this).elim
      · exact w
    refine ⟨trim Q, tq, q, ?_, by omega, fun x => by rw [pI_trim, h]⟩
    unfold lc
    rw [show f.length - 1 = G.length - 1 + ((trim Q).length - 1) by omega, k1]
theorem IsG.eq {f g G : List Int} {B : Nat} (I : IsG f g G B) {H : List Int} (pr : gcdL H = 1) (ld : 0 < lc H) (tH : H.getLast? ≠ some 0) (df : ∃ Q, ∀ x, pI f x = pI H x * pI Q x) (dg : ∃ Q, ∀ x, pI g x = pI H x * pI Q x) (len : G.length ≤ H.length) : H = G := by
  obtain ⟨Q1, e1⟩ := df
  obtain ⟨Q2, e2⟩ := dg
  obtain ⟨U, V, R, R0, _, eb⟩ := I.bz
  have lG := I.ld
  have gl := List.length_pos_iff.mpr (ne_lc (show lc G ≠ 0 by omega))
  have cG : ∀ k, (comb R G 0 []).getD k 0 = R * G.getD k 0 := fun k => by rw [comb_get]; omega
  have eR : ∀ x, pI (trim (comb R G 0 [])) x = pI H x * pI (comb 1 (mulL U Q1) 1 (mulL V Q2)) x := fun x => by
    rw [pI_trim, pI_comb, pI_nil, pI_comb, mulL_pI, mulL_pI, rc1]
    have := eb x
    rw [e1, e2] at this
    grind
  have t0 : (trim (comb R G 0 [])).getD (G.length - 1) 0 ≠ 0 := by
    rw [trim_get, cG]
    exact Int.mul_ne_zero R0 (by unfold lc at lG; omega)
  have n0 : trim (comb R G 0 []) ≠ [] := fun z => t0 (by rw [z]; exact getD_out (Nat.zero_le _))
  obtain ⟨z, tz, zn, lz, le, ez⟩ := lc_mul (trim_last _) n0 (show lc H ≠ 0 by omega) eR
  have l1 : (trim (comb R G 0 [])).length = G.length := by
    have a : (trim (comb R G 0 [])).length ≤ G.length := len_of (trim_last _) fun k hk => by
      rw [trim_get, cG, getD_out (u := G) hk]
      omega
    have b : G.length - 1 < (trim (comb R G 0 [])).length := by
      rcases Nat.lt_or_ge (G.length - 1) (trim (comb R G 0 [])).length with w | w
      · exact w
      · exact (t0 (getD_out w)).elim
    omega
  have zl := List.length_pos_iff.mpr zn
  have z1 : z.length = 1 := by omega
  have hlen : H.length = G.length := by omega
  obtain ⟨k, rfl⟩ : ∃ k, z = [k] := by
    match z, z1 with
    | [k], _ => exact ⟨k, rfl⟩
  have k0 : k ≠ 0 := fun w => tz (by rw [w]; rfl)
  have lck : lc (trim (comb R G 0 [])) = R * lc G := by
    unfold lc
    rw [l1, trim_get, cG]
  rw [lck] at lz
  have lz : R * lc G = lc H * k := lz
  have key : ∀ x, pI H x = ((lc H : Int) : Rat) / ((lc G : Int) : Rat) * pI G x := fun x => by
    have h1 := ez x
    rw [pI_trim, pI_comb, pI_nil, pI_one] at h1
    have h2 : ((R * lc G : Int) : Rat) = ((lc H * k : Int) : Rat) := by rw [lz]
    rw [Rat.intCast_mul, Rat.intCast_mul] at h2
    have a := ratInt_ne (a := lc G) (by omega)
    have b := ratInt_ne k0
    have : (k : Rat) * (pI H x * (lc G : Rat) - (lc H : Rat) * pI G x) = 0 := by grind
    rcases Rat.mul_eq_zero.mp this with w | w
    · exact (b w).elim
    · grind
  refine prim_uniq ?_ key pr I.pr tH I.t
  rw [Rat.div_def]
  exact Rat.mul_pos (ratInt_pos ld) (Rat.inv_pos.mpr (ratInt_pos lG))
/-- what is found modulo a prime has at least the length -/
theorem glen {p : Int} (P : Pr p) {f g G W : List Int} {B : Nat} (I : IsG f g G B) (tf : f.getLast? ≠ some 0) (hf : f ≠ []) (hl : ¬ p ∣ lc f) (R : Red p W) (Wn : W ≠ []) (A : ∀ D, Dv p D f → Dv p D g → Dv p D W) :
    ∃ Q : List Int, Red p Q ∧ G.length + Q.length = W.length + 1 ∧ ∃ E, ∀ x, pI W x = pI G x * pI Q x + (p : Rat) * pI E x := by
  have lG := I.ld
  obtain ⟨Q1, e1⟩ := I.df
  obtain ⟨Q2, e2⟩ := I.dg
  obtain ⟨z, _, _, lz, _, _⟩ := lc_mul tf hf (show lc G ≠ 0 by omega) e1
  have hG : ¬ p ∣ lc G := fun d => hl (by rw [lz]; exact Int.dvd_mul_of_dvd_left d)
  have gl := List.length_pos_iff.mpr (ne_lc (show lc G ≠ 0 by omega))
  obtain ⟨wn, wl⟩ := top_ne R.t Wn
  obtain ⟨k, k1, k2, k3, Q, RQ, k4, E, e⟩ := (A G (Dv.of_mul e1) (Dv.of_mul e2)).len P hG gl ⟨W.length - 1, fun d => wn (R.small _ d)⟩
  have kw : k = W.length - 1 := by
    rcases Nat.lt_trichotomy k (W.length - 1) with q | q | q
    · exact (wn (R.small _ (k3 _ q))).elim
    · exact q
    · exact (k2 (by rw [getD_out (u := W) (by omega)]; exact ⟨0, by simp⟩)).elim
  exact ⟨Q, RQ, by omega, E, e⟩
theorem lucky {p : Int} (P : Pr p) {f g G W : List Int} {B : Nat} (I : IsG f g G B) (hB : 2 ^ B ≤ p.natAbs) (tf : f.getLast? ≠ some 0) (hf : f ≠ []) (hl : ¬ p ∣ lc f) (R : Red p W) (Wn : W ≠ []) (A : ∀ D, Dv p D f → Dv p D g → Dv p D W) (B1 : Dv p W f) (B2 : Dv p W g) :
    W.length = G.length ∧ ∃ q : Int, ¬ p ∣ q ∧ ∀ k, p ∣ W.getD k 0 - q * G.getD k 0 := by
  obtain ⟨Q, RQ, ql, E, e⟩ := glen P I tf hf hl R Wn A
  obtain ⟨U, V, r, r0, rb, eb⟩ := I.bz
  have lG := I.ld
  have gl := List.length_pos_iff.mpr (ne_lc (show lc G ≠ 0 by omega))
  have pr : ¬ p ∣ r := fun d => by
    have := Nat.le_of_dvd (by omega) (Int.natAbs_dvd_natAbs.mpr d)
    omega
  have D : Dv p W (comb r G 0 []) := B1.lin B2 (A := U) (B := V) (E := []) fun x => by
    rw [pI_comb, pI_nil, eb x]
    grind
  have D := Dv.unit P pr (F := G) (fun x => by rw [pI_comb, pI_nil]; grind) D
  have lG2 : ¬ p ∣ lc G := fun d => by
    obtain ⟨Q1, e1⟩ := I.df
    obtain ⟨z, _, _, lz, _, _⟩ := lc_mul tf hf (show lc G ≠ 0 by omega) e1
    exact hl (by rw [lz]; exact Int.dvd_mul_of_dvd_left d)
  obtain ⟨wn, wl⟩ := top_ne R.t Wn
  obtain ⟨k, k1, k2, _⟩ := D.len P (fun d => wn (R.small _ d)) wl ⟨G.length - 1, lG2⟩
  have kg : k < G.length := by
    rcases Nat.lt_or_ge k G.length with w | w
    · exact w
    · exact (k2 (by rw [getD_out (u := G) w]; exact ⟨0, by simp⟩)).elim
  have wlen : W.length = G.length := by
    rcases Nat.eq_zero_or_pos Q.length with w | w
    · have : Q = [] := List.length_eq_zero_iff.mp w
      have c := coef_cong (p := p) (u := W) (v := []) (E := E) (fun x => by rw [e, this, pI_nil]; grind) (W.length - 1)
      rw [getD_out (u := []) (Nat.zero_le _), Int.sub_zero] at c
      exact (wn (R.small _ c)).elim
    · omega
  refine ⟨wlen, ?_⟩
  have q1 : Q.length = 1 := by omega
  obtain ⟨q, rfl⟩ : ∃ q, Q = [q] := by
    match Q, q1 with
    | [q], _ => exact ⟨q, rfl⟩
  refine ⟨q, fun d => ?_, fun j => ?_⟩
  · have := RQ.small 0 d
    exact RQ.t (by show some q = some 0; rw [show q = 0 from this])
  · have c := coef_cong (p := p) (u := W) (v := comb q G 0 []) (E := E) (fun x => by rw [e, pI_one, pI_comb, pI_nil]; grind) j
    rw [comb_get] at c
    rw [show q * G.getD j 0 = q * G.getD j 0 + 0 * ([] : List Int).getD j 0 by omega]
    exact c
theorem centre {p z y : Int} (hp : 0 < p) (h : p ∣ z - y) (hy : 2 * y.natAbs < p.natAbs) : (if 2 * (z % p) > p then z % p - p else z % p) = y := by
  obtain ⟨k, hk⟩ := h
  have e : z = y + p * k := by omega
  rw [e, Int.add_mul_emod_self_left]
  by_cases q : 0 ≤ y
  · rw [Int.emod_eq_of_lt q (by omega), if_neg (by omega)]
  · have e2 : y % p = y + p := by
      rw [← Int.add_emod_right]
      exact Int.emod_eq_of_lt (by omega) (by omega)
    rw [e2, if_pos (by omega)]
    omega
/-- the numbers that the program centres are a multiple of the divisor -/
theorem lift {p : Int} (P : Pr p) {G W : List Int} {q l i m : Int} (hq : ¬ p ∣ q) (lG : ¬ p ∣ lc G) (hW : ∀ k, p ∣ W.getD k 0 - q * G.getD k 0) (len : W.length = G.length) (hi : p ∣ i * lc W - 1) (hm : l = lc G * m) (k : Nat) : p ∣ W.getD k 0 * (l * i) - m * G.getD k 0 := by
  -- q lc G i is 1 modulo p
  have h1 : p ∣ q * lc G * i - 1 := by
    obtain ⟨a, ha⟩ := hW (G.length - 1)
    obtain ⟨b, hb⟩ := hi
    have e : lc W = q * lc G + p * a := by
      unfold lc
      rw [len]
      omega
    rw [e] at hb
    refine ⟨b - i * a, ?_⟩
    have : i * (q * lc G + p * a) = i * (q * lc G) + i * (p * a) := Int.mul_add _ _ _
    have e3 : q * lc G * i = i * (q * lc G) := by grind
    have e4 : p * (b - i * a) = p * b - i * (p * a) := by grind
    omega
  obtain ⟨a, ha⟩ := hW k
  obtain ⟨b, hb⟩ := h1
  refine ⟨a * (l * i) + m * G.getD k 0 * b, ?_⟩
  have e1 : W.getD k 0 = q * G.getD k 0 + p * a := by omega
  have e2 : q * lc G * i = 1 + p * b := by omega
  rw [e1, hm]
  generalize G.getD k 0 = y at *
  have : (q * y + p * a) * (lc G * m * i) = m * y * (q * lc G * i) + p * a * (lc G * m * i) := by grind
  rw [this, e2]
  grind
end Gx
/-! xs[j] -= e, x = xs.pop(), divmod unpacked, a module's row of numbers, shifts of any size. -/
namespace DL
open PySem PySem.Spec PyProof.Rows L2
theorem noPy_of {i j : Int} (h : j.natAbs.log2 < 9000 ∨ i.natAbs.log2 < 13500) : Builtin.divisionGoesByPylong i j = false := by
  rcases h with h | h
  · exact PyProof.noPylong_of_log2 h
  · have k1 : (if i == 0 then 0 else i.natAbs.log2 / 30 + 1) ≤ 450 := by
      by_cases hi : (i == 0) = true
      · rw [if_pos hi]; exact Nat.zero_le _
      · rw [if_neg hi]; omega
    show (decide ((if j == 0 then 0 else j.natAbs.log2 / 30 + 1) > 300) && decide ((if i == 0 then 0 else i.natAbs.log2 / 30 + 1) > (if j == 0 then 0 else j.natAbs.log2 / 30 + 1) + 150)) = false
    by_cases q : (if j == 0 then 0 else j.natAbs.log2 / 30 + 1) > 300
    · rw [decide_eq_false (p := (if i == 0 then 0 else i.natAbs.log2 / 30 + 1) > (if j == 0 then 0 else j.natAbs.log2 / 30 + 1) + 150) (by omega), Bool.and_false]
    · rw [decide_eq_false q]
      rfl
def rShlQ : R2 := rI CShl fun i j => .int (i * 2 ^ j.toNat)
theorem op_shlQ {X : Cx} : OpR X (binaryOp .LShift) rShlQ := op_shlW
def CDivX (i j : Int) : Prop := j ≠ 0 ∧ (j.natAbs.log2 < 9000 ∨ i.natAbs.log2 < 13500)
def rFdX : R2 := rI CDivX fun i j => .int (i.fdiv j)
theorem op_fdX {X : Cx} : OpR X (binaryOp .FloorDiv) rFdX := opI fun i j _ _ _ _ _ hc q => floordiv_int hc.1 q (.inl (noPy_of hc.2))
def rAnyL (K : PySem.W.Frag) : List V → Hp → VK → Prop := fun vs H Q => ∃ (a : Addr) (ns : List Int), vs = [V.ref a] ∧ SqL K H a (ns.map V.int) ∧ Q (.bl ((ns.map PyData.int).any PyData.truthy)) H
theorem cr_anyL {X : Cx} (hc : X.calm = true) : CallR X (.builtin "any") (rAnyL X.K) := by
  intro pins s σ H vs us Q I r h
  obtain ⟨a, ns, rfl, hs, q⟩ := h
  obtain ⟨its, rv, p, _⟩ := I.list hs
  rw [Vals.ref1 r]
  exact PySem.W.any_list_data (xs := ns.map PyData.int) (I.ok.hd hc) (show s.heap.IsList a its.toArray from (let ⟨o, n, e, c, _, d⟩ := p; ⟨o, e, c, n, d⟩)) (reads_ints _ rv) (plain_ints ns) (fun x hx => by
    obtain ⟨n, _, rfl⟩ := List.mem_map.mp hx
    trivial) fun h' tk hk => ⟨.bl _, H, I.kept hk, rfl, q⟩
/-- a module's row of numbers -/
theorem ct_ints {K : PySem.W.Frag} {a : Addr} {od : Option Addr} {n : Nat} {sl : Array (Option Value)} {ps : List (Int × Tok)} (h : K.lookup a = some ⟨.type "tuple", od, .seq (ps.map fun p => Value.int p.1 p.2).toArray n, sl⟩) (hl : ps.length ≤ 1000) : CT K a (.tuple (ps.map fun p => .int p.1)) := fun H => by
  have dn : ∀ ps : List (Int × Tok), DnA K H (ps.map fun p => V.int p.1) (ps.map fun p => PyData.int p.1) := fun ps => by
    induction ps with
    | nil => exact .nil
    | cons p ps ih => exact .cons (.int _) ih
  have vl : ∀ ps : List (Int × Tok), Vals (ps.map fun p => V.int p.1) (ps.map fun p => Value.int p.1 p.2) := fun ps => by
    induction ps with
    | nil => exact .nil
    | cons p ps ih => exact .cons ⟨_, rfl⟩ ih
  exact .tup (xs := ps.map fun p => V.int p.1) (.inr ⟨_, _, _, h, rfl, rfl, by rw [List.size_toArray, List.length_map]; exact Nat.le_trans hl (by decide), by simpa using vl ps⟩) (dn ps)
section
variable {K : PySem.W.Frag} {B : Bs} {G : List Hp} {L : List Addr} {Γ : List Sl} {H H' H2 : Hp} {σ : L2.St}
variable {te ta tb tc tl : TE} {tt tu : TT} {tr : TA} {k : PyData → Prop} {x y : PyData} {P P' : PD} {t u : TS}
theorem ro_shl {i j : Int} (hc : CShl i j) (hk : k (.int (i * 2 ^ j.toNat))) : ROk K B G L Γ rShlQ (.int i) (.int j) k := rok_i (C := CShl) hc hk
theorem ro_fdX {i j : Int} (hc : CDivX i j) (hk : k (.int (i.fdiv j))) : ROk K B G L Γ rFdX (.int i) (.int j) k := rok_i (C := CDivX) hc hk
theorem cok_anyL {ns : List Int} (hk : k (.bool ((ns.map PyData.int).any PyData.truthy))) : COk K B G L Γ (rAnyL K) [.list (ns.map PyData.int)] k := fun σ H Q vs E d1 q => by
  cases d1 with
  | cons h1 h2 =>
    cases h2
    cases h1 with
    | @lst a xs _ e1 dx =>
      obtain rfl := ints_of dx
      exact ⟨a, ns, rfl, .inl (.inl (hid_sub _ _ _ _ e1)), q _ _ H (Go.refl E) (.bl _) hk⟩
theorem cok_divmod {i j : Int} (h0 : 0 < j) (hc : j.natAbs.log2 < 9000 ∨ i.natAbs.log2 < 13500) (hk : k (.tuple [.int (i / j), .int (i % j)])) : COk K B G L Γ rDivmodQ [.int i, .int j] k := fun σ H Q vs E d1 q => by
  cases d1 with
  | cons h1 h2 =>
    cases h2 with
    | cons h2 h3 =>
      cases h3
      cases h1
      cases h2
      refine ⟨i, j, rfl, ⟨h0, noPy_of hc⟩, fun p hp => ?_⟩
      have g2 := Go.new (o := .tup [.int (i / j), .int (i % j)]) E hp
      exact q _ _ _ g2 (.tup (.inl (.inl (hid_new (E.newM hp)))) (.cons (.int _) (.cons (.int _) .nil))) hk
/-- xs[j] -= e, xs an own list of numbers -/
theorem st_subOwn {i : Nat} {l : Addr} {xs : List PyData} (hi : Γ[i]? = some (.own l xs)) (h : EvP K B G L Γ tb fun n => ∃ (j : Nat) (a : Int), n = .int (j : Int) ∧ xs[j]? = some (.int a) ∧
      EvP K B G L Γ te fun d => ∃ b : Int, d = .int b ∧ P.nx L (Γ.set i (.own l (xs.set j (.int (a - b)))))) :
    StP K B G L Γ (tAugS (tVar i) tb te (rGetL K) (ipI fun a b => a - b) rSetL) P := fun σ H D E M => by
  obtain ⟨e, vs, hl, dn⟩ := E.getO hi
  refine ⟨_, e, h σ H _ E fun u n H1 g1 dn1 ⟨j, a, en, hj, h2⟩ => ?_⟩
  subst en
  obtain ⟨_, ws, hl1, dn2⟩ := g1.env.getO hi
  obtain ⟨w, ew, dw⟩ := dn2.get hj
  refine ⟨l, ws, j, w, rfl, dn_int dn1, .inl (.inl hl1), ew, h2 σ H1 _ g1.env fun v d H2 g2 dn3 ⟨b, ed, hk⟩ => ?_⟩
  subst ed
  obtain ⟨_, zs, hl2, dn4⟩ := g2.env.getO hi
  refine ⟨a, b, dn_int dw, dn_int dn3, l, zs, (j : Int), j, rfl, dn_int dn1, hl2, ?_, M.nx _ _ _ _ hk (Env.write g2.env hi (dn4.set j (.int _)))⟩
  have : j < xs.length := (List.getElem?_eq_some_iff.mp hj).1
  rw [dn4.length]
  unfold ixN
  rw [if_pos (by omega), if_pos (by omega)]
  simp
/-- two own lists are two -/
theorem st_ne {i j : Nat} {l1 l2 : Addr} {xs ys : List PyData} (hi : Γ[i]? = some (.own l1 xs)) (hj : Γ[j]? = some (.own l2 ys)) (hij : i ≠ j) (h : l1 ≠ l2 → StP K B G L Γ t P) : StP K B G L Γ t P := fun σ H D E M =>
  h (fun z => hij (E.ou i j l1 xs ys hi (by rw [z]; exact hj))) σ H D E M
/-- x = xs.pop() -/
theorem st_popA {i j : Nat} {l : Addr} {xs : List PyData} {y : PyData} (hi : Γ[i]? = some (.own l xs)) (hij : j ≠ i) (hy : xs.getLast? = some y) (hk : P.nx L ((Γ.set i (.own l xs.dropLast)).set j (.d y))) :
    StP K B G L Γ (tAsg (tBM0 K "list" rPop (tVar i)) (gName j)) P := fun σ H D E M => by
  obtain ⟨e, vs, hl, dn⟩ := E.getO hi
  have hne : xs ≠ [] := fun z => by rw [z] at hy; cases hy
  have hp : 0 < xs.length := List.length_pos_iff.mpr hne
  have hv : vs.length = xs.length := dn.length
  obtain ⟨v, hv1, dv⟩ := dn.get (i := xs.length - 1) (d := y) (by rw [← hy, List.getLast?_eq_getElem?])
  have E2 := Env.write E hi (ys := xs.dropLast) (vs := vs.dropLast) (by
    rw [List.dropLast_eq_take, List.dropLast_eq_take, hv]
    exact dn.take _)
  refine ⟨_, e, .inl ⟨rfl, vs, .inl (.inl hl)⟩, l, vs, v, rfl, rfl, hl, by rw [hv]; exact hv1, ?_⟩
  refine M.nx _ _ _ _ hk (E2.put j (dv.mono ?_))
  have lM : l ∈ L ++ B.M := List.mem_append_left _ (E.ow i l xs hi)
  exact hid_same fun a o q e => by
    rw [upd_ne (fun (z : a = l) => q (by rw [z]; exact lM))]
    exact e
end
end DL
namespace Gx
open Mx Px
def RelM (p : Int) (F D W : List Int) : Prop := ∃ (c : Int) (Q E : List Int), ¬ p ∣ c ∧ ∀ x, (c : Rat) * pI F x = pI Q x * pI D x + pI W x + (p : Rat) * pI E x
theorem snoc_get (W : List Int) (t : Int) (k : Nat) : (W ++ [t]).getD k 0 = if k < W.length then W.getD k 0 else if k = W.length then t else 0 := by
  rw [List.getD_eq_getElem?_getD]
  by_cases q : k < W.length
  · rw [if_pos q, List.getElem?_append_left q, List.getD_eq_getElem?_getD]
  · rw [if_neg q, List.getElem?_append_right (by omega)]
    by_cases e : k = W.length
    · rw [if_pos e, e, Nat.sub_self]
      rfl
    · rw [if_neg e, List.getElem?_eq_none (by simp; omega)]
      rfl
theorem sft_getD (s : Nat) (g : List Int) (k : Nat) : (sft s g).getD k 0 = if k < s then 0 else g.getD (k - s) 0 := by
  by_cases q : k < s
  · rw [if_pos q]
    unfold sft
    rw [List.getD_eq_getElem?_getD, List.getElem?_append_left (by rw [List.length_replicate]; exact q), List.getElem?_replicate, if_pos q]
    rfl
  · rw [if_neg q]
    have := sft_get s g (k - s)
    rwa [show s + (k - s) = k by omega] at this
theorem emod_sub_dvd (a p : Int) : p ∣ a % p - a := by
  have := Int.emod_add_mul_ediv a p
  exact ⟨-(a / p), by rw [Int.mul_neg]; omega⟩
theorem rest_step {p : Int} (P : Pr p) {F D W V : List Int} {t : Int} (RD : Red p D) (Dn : D ≠ []) (hl : D.length ≤ W.length + 1) (rel : RelM p F D (W ++ [t]))
    (hV : ∀ k, V.getD k 0 = if W.length + 1 - D.length ≤ k ∧ k < W.length then (W.getD k 0 * lc D % p - t * D.getD (k - (W.length + 1 - D.length)) 0) % p else W.getD k 0 * lc D % p) : RelM p F D V := by
  obtain ⟨c, Q, E, hc, e⟩ := rel
  obtain ⟨dn, dl⟩ := top_ne RD.t Dn
  have ld : ¬ p ∣ lc D := fun d => dn (RD.small _ d)
  obtain ⟨E2, e2⟩ := cong_of (p := p) (u := V) (v := comb (lc D) (W ++ [t]) (-t) (sft (W.length + 1 - D.length) D)) fun k => by
    rw [hV k, comb_get, snoc_get, sft_getD]
    by_cases q1 : k < W.length
    · rw [if_pos q1]
      by_cases q2 : W.length + 1 - D.length ≤ k
      · rw [if_pos ⟨q2, q1⟩, if_neg (by omega)]
        obtain ⟨a, ha⟩ := emod_sub_dvd (W.getD k 0 * lc D % p - t * D.getD (k - (W.length + 1 - D.length)) 0) p
        obtain ⟨b, hb⟩ := emod_sub_dvd (W.getD k 0 * lc D) p
        refine ⟨a + b, ?_⟩
        have : lc D * W.getD k 0 = W.getD k 0 * lc D := Int.mul_comm _ _
        have e3 : -t * D.getD (k - (W.length + 1 - D.length)) 0 = - (t * D.getD (k - (W.length + 1 - D.length)) 0) := Int.neg_mul _ _
        rw [Int.mul_add]
        omega
      · rw [if_neg (fun z => q2 z.1), if_pos (by omega)]
        obtain ⟨b, hb⟩ := emod_sub_dvd (W.getD k 0 * lc D) p
        refine ⟨b, ?_⟩
        have : lc D * W.getD k 0 = W.getD k 0 * lc D := Int.mul_comm _ _
        omega
    · rw [if_neg (fun z => q1 z.2), if_neg q1, getD_out (u := W) (by omega), Int.zero_mul, Int.zero_emod]
      by_cases q3 : k = W.length
      · rw [if_pos q3, if_neg (by omega)]
        have : D.getD (k - (W.length + 1 - D.length)) 0 = lc D := by
          unfold lc
          congr 1
          omega
        rw [this]
        exact ⟨0, by grind⟩
      · rw [if_neg q3, if_neg (by omega), getD_out (u := D) (by omega)]
        exact ⟨0, by simp⟩
  refine ⟨c * lc D, comb (lc D) Q t (sft (W.length + 1 - D.length) [1]), comb (lc D) E (-1) E2, P.ne hc ld, fun x => ?_⟩
  have h1 := e x
  have m1 : ((-1 : Int) : Rat) = -1 := rfl
  rw [pI_comb, pI_comb, e2, pI_comb, sft_pI, sft_pI, pI_one, Rat.intCast_mul, Rat.intCast_neg, rc1, m1]
  grind
theorem RelM.start {p : Int} (P : Pr p) (F D : List Int) : RelM p F D F := ⟨1, [], [], fun d => by
  have := Int.le_of_dvd (by decide) d
  have := P.one
  omega, fun x => by rw [rc1, pI_nil]; grind⟩
theorem RelM.drop {p : Int} {F D W : List Int} (h : RelM p F D (W ++ [0])) : RelM p F D W := by
  obtain ⟨c, Q, E, hc, e⟩ := h
  refine ⟨c, Q, E, hc, fun x => ?_⟩
  rw [e, pI_ext (u := W ++ [0]) (v := W) fun k => by
    rw [snoc_get]
    by_cases q : k < W.length
    · rw [if_pos q]
    · rw [if_neg q, getD_out (u := W) (by omega)]
      split <;> rfl]
theorem RelM.trim {p : Int} {F D W : List Int} (h : RelM p F D W) : RelM p F D (trim W) := by
  obtain ⟨c, Q, E, hc, e⟩ := h
  exact ⟨c, Q, E, hc, fun x => by rw [e, pI_trim]⟩
/-- what divides two divides the rest, and the other way round -/
theorem RelM.down {p : Int} {F D W X : List Int} (h : RelM p F D W) (a : Dv p X F) (b : Dv p X D) : Dv p X W := by
  obtain ⟨c, Q, E, hc, e⟩ := h
  refine a.lin b (A := [c]) (B := comb (-1) Q 0 []) (E := comb (-1) E 0 []) fun x => ?_
  have := e x
  have m1 : ((-1 : Int) : Rat) = -1 := rfl
  rw [pI_one, pI_comb, pI_nil, pI_comb, m1]
  grind
theorem RelM.up {p : Int} (P : Pr p) {F D W X : List Int} (h : RelM p F D W) (a : Dv p X D) (b : Dv p X W) : Dv p X F := by
  obtain ⟨c, Q, E, hc, e⟩ := h
  refine Dv.unit P hc (W := comb c F 0 []) (fun x => by rw [pI_comb, pI_nil]; grind) (a.lin b (A := Q) (B := [1]) (E := E) fun x => ?_)
  rw [pI_comb, pI_nil, pI_one, rc1]
  have := e x
  grind
/-- reduced rows and their rests -/
theorem rdm_dv {p : Int} {f X : List Int} : Dv p X f ↔ Dv p X (rdm p f) := by
  obtain ⟨E, e⟩ := rdm_pI p f
  have m1 : ((-1 : Int) : Rat) = -1 := rfl
  constructor
  · intro h
    exact h.scale (a := 1) (E := comb (-1) E 0 []) fun x => by
      rw [pI_comb, pI_nil, rc1, m1, e]
      grind
  · intro h
    exact h.scale (a := 1) (E := E) fun x => by
      rw [rc1, e]
      grind
end Gx
namespace Gx
open Mx Px
/-! quotients with whole numbers -/
theorem wq_mul {u v q W : List Int} (rel : ∀ x, pI u x = pI v x * pI q x + pI W x) (hQ : ∃ Q, ∀ x, pI u x = pI v x * pI Q x) : ∃ Z : List Int, Z.getLast? ≠ some 0 ∧ ∀ k, W.getD k 0 = (mulL v Z).getD k 0 := by
  obtain ⟨Q, e⟩ := hQ
  refine ⟨trim (comb 1 Q (-1) q), trim_last _, fun k => pI_coef (fun x => ?_) k⟩
  have m1 : ((-1 : Int) : Rat) = -1 := rfl
  have h1 := rel x
  rw [e] at h1
  rw [mulL_pI, pI_trim, pI_comb, rc1, m1]
  grind
theorem wq_div {u v q W : List Int} (hv : lc v ≠ 0) (rel : ∀ x, pI u x = pI v x * pI q x + pI W x) (hQ : ∃ Q, ∀ x, pI u x = pI v x * pI Q x) {n : Nat} (hW : ∀ k, n < k → W.getD k 0 = 0) : lc v ∣ W.getD n 0 := by
  obtain ⟨Z, tz, e⟩ := wq_mul rel hQ
  have vl := List.length_pos_iff.mpr (ne_lc hv)
  by_cases zn : Z = []
  · rw [e, zn, pI_get (u := mulL v []) (fun x => by rw [mulL_pI, pI_nil]; grind) n]
    exact ⟨0, by simp⟩
  · obtain ⟨z0, zl⟩ := top_ne tz zn
    have tp := mulL_top v Z vl zl
    rw [← e] at tp
    have nz : W.getD (v.length - 1 + (Z.length - 1)) 0 ≠ 0 := by rw [tp]; exact Int.mul_ne_zero hv z0
    rcases Nat.lt_trichotomy n (v.length - 1 + (Z.length - 1)) with q1 | q1 | q1
    · exact (nz (hW _ q1)).elim
    · rw [q1, tp]
      exact ⟨_, rfl⟩
    · rw [e, mulL_out _ _ _ (by omega) zl]
      exact ⟨0, by simp⟩
theorem wq_zero {u v q W : List Int} (hv : lc v ≠ 0) (rel : ∀ x, pI u x = pI v x * pI q x + pI W x) (hQ : ∃ Q, ∀ x, pI u x = pI v x * pI Q x) (hW : ∀ k, v.length ≤ k + 1 → W.getD k 0 = 0) (k : Nat) : W.getD k 0 = 0 := by
  obtain ⟨Z, tz, e⟩ := wq_mul rel hQ
  have vl := List.length_pos_iff.mpr (ne_lc hv)
  by_cases zn : Z = []
  · rw [e, zn]
    exact pI_get (u := mulL v []) (fun x => by rw [mulL_pI, pI_nil]; grind) k
  · obtain ⟨z0, zl⟩ := top_ne tz zn
    have tp := mulL_top v Z vl zl
    rw [← e] at tp
    have nz : W.getD (v.length - 1 + (Z.length - 1)) 0 ≠ 0 := by rw [tp]; exact Int.mul_ne_zero hv z0
    exact (nz (hW _ (by omega))).elim
/-- one more number of the quotient -/
theorem wq_step {u v q W W' : List Int} {s : Nat} {t : Int} (rel : ∀ x, pI u x = pI v x * pI (sft (s + 1) q) x + pI W x) (hW : ∀ k, W'.getD k 0 = if s ≤ k ∧ k < s + v.length then W.getD k 0 - t * v.getD (k - s) 0 else W.getD k 0) :
    (∀ x, pI u x = pI v x * pI (sft s (t :: q)) x + pI W' x) ∧ n1 W' ≤ n1 W + t.natAbs * n1 v := by
  have e : ∀ k, W'.getD k 0 = (comb 1 W (-t) (sft s v)).getD k 0 := fun k => by
    rw [hW, comb_get, sft_getD]
    by_cases q1 : s ≤ k
    · rw [if_neg (show ¬ k < s by omega)]
      by_cases q2 : k < s + v.length
      · rw [if_pos ⟨q1, q2⟩, Int.neg_mul]
        omega
      · rw [if_neg (fun z => q2 z.2), getD_out (u := v) (by omega)]
        omega
    · rw [if_neg (fun z => q1 z.1), if_pos (by omega)]
      omega
  refine ⟨fun x => ?_, ?_⟩
  · rw [pI_ext e, pI_comb, sft_pI, sft_pI, pI_cons, rel, sft_pI, Rat.pow_succ, rc1, Rat.intCast_neg]
    grind
  · have h := n1_comb' 1 (-t) _ W (sft s v) W' (Nat.le_refl _) (fun k => by rw [e, comb_get])
    rw [sft_n1, Int.natAbs_neg] at h
    have o : (1 : Int).natAbs = 1 := rfl
    rw [o, Nat.one_mul] at h
    exact h
end Gx
namespace Gx
open Mx Px
/-! guesses: from what is found modulo a prime to the divisor -/
def cen (p T y : Int) : Int := if 2 * (y * T % p) > p then y * T % p - p else y * T % p
theorem cen_cong (p T y : Int) : p ∣ cen p T y - y * T := by
  obtain ⟨a, ha⟩ := emod_sub_dvd (y * T) p
  unfold cen
  split
  · exact ⟨a - 1, by rw [Int.mul_sub]; omega⟩
  · exact ⟨a, ha⟩
theorem cen_bd {p : Int} (hp : 0 < p) (T y : Int) : (cen p T y).natAbs < p.natAbs := by
  have a := Int.emod_nonneg (y * T) (show p ≠ 0 by omega)
  have b := Int.emod_lt_of_pos (y * T) hp
  unfold cen
  split <;> omega
theorem cen_zero {p : Int} (hp : 0 < p) (T : Int) : cen p T 0 = 0 := by
  unfold cen
  rw [Int.zero_mul, Int.zero_emod, if_neg (by omega)]
structure GPre (f g : List Int) (p : Int) (G : List Int) (B h : Nat) : Prop where
  P : Pr p
  pb : p.natAbs < 2 ^ 9700
  I : IsG f g G B
  tf : f.getLast? ≠ some 0
  tg : g.getLast? ≠ some 0
  nf : f ≠ []
  ng : g ≠ []
  lf : f.length ≤ 40
  lg : g.length ≤ 40
  hf : n1 f < 2 ^ h
  hg : n1 g < 2 ^ h
  hh : h ≤ 4000
  sz : p.natAbs < 2 ^ 4300 ∨ 2 * 2 ^ (B + h) < p.natAbs
structure Fnd (f g : List Int) (p : Int) (W : List Int) : Prop where
  R : Red p W
  n : W ≠ []
  A : ∀ D, Dv p D f → Dv p D g → Dv p D W
  b1 : Dv p W f
  b2 : Dv p W g
  hl : ¬ p ∣ lc f
theorem lc_dvd {f G Q : List Int} (tf : f.getLast? ≠ some 0) (hf : f ≠ []) (hG : lc G ≠ 0) (h : ∀ x, pI f x = pI G x * pI Q x) : lc G ∣ lc f := by
  obtain ⟨z, _, _, e, _⟩ := lc_mul tf hf hG h
  exact ⟨_, e⟩
theorem GPre.one {f g G W : List Int} {p : Int} {B h : Nat} (X : GPre f g p G B h) (F : Fnd f g p W) (w1 : W.length = 1) : G = [1] := by
  obtain ⟨Q, _, ql, _⟩ := glen X.P X.I X.tf X.nf F.hl F.R F.n F.A
  have l0 := X.I.ld
  have gl := List.length_pos_iff.mpr (ne_lc (show lc G ≠ 0 by omega))
  have g1 : G.length = 1 := by
    rcases Nat.eq_zero_or_pos Q.length with w | w
    · -- then W would be nothing
      have : G.length = 2 := by omega
      exfalso
      have e : Q = [] := List.length_eq_zero_iff.mp w
      obtain ⟨Q', _, ql', E', e'⟩ := glen X.P X.I X.tf X.nf F.hl F.R F.n F.A
      have q0 : Q' = [] := List.length_eq_zero_iff.mp (by omega)
      have c := coef_cong (p := p) (u := W) (v := []) (E := E') (fun x => by rw [e', q0, pI_nil]; grind) (W.length - 1)
      rw [getD_out (u := []) (Nat.zero_le _), Int.sub_zero] at c
      exact (top_ne F.R.t F.n).1 (F.R.small _ c)
    · omega
  match G, g1 with
  | [c], _ =>
    have pr := X.I.pr
    have l0 : 0 < c := l0
    have : Nat.gcd c.natAbs 0 = 1 := pr
    rw [Nat.gcd_zero_right] at this
    congr 1
    omega
theorem GPre.guess {f g G W H : List Int} {p : Int} {B h : Nat} (X : GPre f g p G B h) (F : Fnd f g p W) (len : H.length = W.length) (pr : gcdL H = 1) (ld : 0 < lc H) (tH : H.getLast? ≠ some 0) (df : ∃ Q, ∀ x, pI f x = pI H x * pI Q x) (dg : ∃ Q, ∀ x, pI g x = pI H x * pI Q x) : H = G := by
  obtain ⟨Q, _, ql, E', e'⟩ := glen X.P X.I X.tf X.nf F.hl F.R F.n F.A
  refine X.I.eq pr ld tH df dg ?_
  rcases Nat.eq_zero_or_pos Q.length with w | w
  · exfalso
    have q0 : Q = [] := List.length_eq_zero_iff.mp w
    have c := coef_cong (p := p) (u := W) (v := []) (E := E') (fun x => by rw [e', q0, pI_nil]; grind) (W.length - 1)
    rw [getD_out (u := []) (Nat.zero_le _), Int.sub_zero] at c
    exact (top_ne F.R.t F.n).1 (F.R.small _ c)
  · omega
theorem gcd_two (a b : Int) : gcdL [a, b] = Nat.gcd a.natAbs b.natAbs := by
  show Nat.gcd a.natAbs (Nat.gcd b.natAbs 0) = _
  rw [Nat.gcd_zero_right]
/-- the row that the program centres -/
theorem cen_row {f g W : List Int} {p l i T : Int} (P : Pr p) (F : Fnd f g p W) (hl : l ∣ lc f) (hi : p ∣ i * lc W - 1) (hT : T = l * i % p) :
    lc (W.map (cen p T)) ≠ 0 ∧ (W.map (cen p T)).getLast? ≠ some 0 ∧ W.map (cen p T) ≠ [] := by
  have p1 := P.one
  have wl := List.length_pos_iff.mpr F.n
  have e : lc (W.map (cen p T)) = cen p T (lc W) := by
    unfold lc
    rw [List.length_map, map_getD (cen_zero (by omega) T)]
  have n0 : lc (W.map (cen p T)) ≠ 0 := fun z => by
    rw [e] at z
    obtain ⟨a, ha⟩ := cen_cong p T (lc W)
    rw [z, hT] at ha
    obtain ⟨b, hb⟩ := emod_sub_dvd (l * i) p
    obtain ⟨c, hc⟩ := hi
    have : p ∣ l := by
      refine ⟨- a - lc W * b - l * c, ?_⟩
      have e1 : l * i % p = l * i + p * b := by omega
      rw [e1] at ha
      have e2 : i * lc W = 1 + p * c := by omega
      have e3 : lc W * (l * i + p * b) = l * (i * lc W) + p * (lc W * b) := by grind
      rw [e3, e2] at ha
      grind
    obtain ⟨u, hu⟩ := hl
    exact F.hl (by rw [hu]; exact Int.dvd_mul_of_dvd_left this)
  refine ⟨n0, fun z => n0 ?_, fun z => n0 (by rw [z]; rfl)⟩
  exact (last_getD z).1
theorem GPre.lucky {f g G W : List Int} {p l i T : Int} {B h : Nat} (X : GPre f g p G B h) (F : Fnd f g p W) (lk : 2 * 2 ^ (B + h) < p.natAbs) (hl : l = ((Nat.gcd (lc f).natAbs (lc g).natAbs : Nat) : Int)) (hi : p ∣ i * lc W - 1) (hT : T = l * i % p) :
    rdc (W.map (cen p T)) = G ∧ gcdL (W.map (cen p T)) < 2 ^ h := by
  have p1 := X.P.one
  have lG := X.I.ld
  obtain ⟨Q1, e1⟩ := X.I.df
  obtain ⟨Q2, e2⟩ := X.I.dg
  have d1 := lc_dvd X.tf X.nf (show lc G ≠ 0 by omega) e1
  have d2 := lc_dvd X.tg X.ng (show lc G ≠ 0 by omega) e2
  have f0 := lc_ne X.tf X.nf
  obtain ⟨m, hm⟩ : lc G ∣ l := by
    rw [hl]
    refine Int.natAbs_dvd_natAbs.mp ?_
    rw [Int.natAbs_natCast]
    exact Nat.dvd_gcd (Int.natAbs_dvd_natAbs.mpr d1) (Int.natAbs_dvd_natAbs.mpr d2)
  have lpos : 0 < l := by
    rw [hl]
    have := Nat.gcd_pos_of_pos_left (lc g).natAbs (show 0 < (lc f).natAbs by omega)
    omega
  have m0 : 0 < m := by
    rcases Int.lt_trichotomy m 0 with q | q | q
    · have := Int.mul_neg_of_pos_of_neg lG q
      omega
    · rw [q] at hm
      omega
    · exact q
  have lb : l.natAbs < 2 ^ h := by
    have h1 : l.natAbs ≤ (lc f).natAbs := by
      rw [hl, Int.natAbs_natCast]
      exact Nat.gcd_le_left _ (by omega)
    have := Nat.lt_of_le_of_lt (lc_n1 f) X.hf
    omega
  have mb : m.natAbs < 2 ^ h := by
    have : m.natAbs ≤ l.natAbs := by
      rw [hm, Int.natAbs_mul]
      exact Nat.le_mul_of_pos_left _ (by omega)
    omega
  have pB : 2 ^ B ≤ p.natAbs := by
    have : 2 ^ B ≤ 2 ^ (B + h) := Nat.pow_le_pow_right (by decide) (by omega)
    omega
  obtain ⟨wl, q, hq, hW⟩ := Gx.lucky X.P X.I pB X.tf X.nf F.hl F.R F.n F.A F.b1 F.b2
  have lG2 : ¬ p ∣ lc G := fun d => F.hl (Int.dvd_trans d d1)
  have cv : ∀ k, cen p T (W.getD k 0) = m * G.getD k 0 := fun k => by
    have h1 := lift X.P hq lG2 hW wl hi hm k
    have h2 : p ∣ W.getD k 0 * T - m * G.getD k 0 := by
      obtain ⟨a, ha⟩ := h1
      obtain ⟨b, hb⟩ := emod_sub_dvd (l * i) p
      refine ⟨a + W.getD k 0 * b, ?_⟩
      have e3 : T = l * i + p * b := by rw [hT]; omega
      rw [e3, Int.mul_add, Int.mul_add]
      have e4 : W.getD k 0 * (p * b) = p * (W.getD k 0 * b) := by grind
      omega
    have gb : (G.getD k 0).natAbs < 2 ^ B := Nat.lt_of_le_of_lt (n1_get G k) X.I.n
    have b1 : (m * G.getD k 0).natAbs < 2 ^ (B + h) := by
      rw [Nat.add_comm]
      exact natAbs_mul_lt mb gb
    exact centre (by omega) h2 (by omega)
  have gk : ∀ k, (W.map (cen p T)).getD k 0 = m * G.getD k 0 := fun k => by
    rw [map_getD (cen_zero (by omega) T), cv]
  obtain ⟨n0, tc, nc⟩ := cen_row X.P F (l := l) (by
    rw [hl]
    refine Int.natAbs_dvd_natAbs.mp ?_
    rw [Int.natAbs_natCast]
    exact Nat.gcd_dvd_left _ _) hi hT
  obtain ⟨r1, r2, r3, r4, r5, s, s0, sb, sv, sk⟩ := rdc_spec tc nc
  have lcC : lc (W.map (cen p T)) = m * lc G := by
    unfold lc
    rw [gk, List.length_map, wl]
  have lcS : lc (W.map (cen p T)) = s * lc (rdc (W.map (cen p T))) := by
    unfold lc
    rw [r5]
    exact sk _
  have sp : 0 < s := by
    have : 0 < m * lc G := Int.mul_pos m0 lG
    rcases Int.lt_trichotomy s 0 with z | z | z
    · have := Int.mul_neg_of_neg_of_pos z r2
      omega
    · exact (s0 z).elim
    · exact z
  constructor
  · refine prim_uniq (c := (m : Rat) / (s : Rat)) ?_ (fun x => ?_) r1 X.I.pr r3 X.I.t
    · rw [Rat.div_def]
      exact Rat.mul_pos (ratInt_pos m0) (Rat.inv_pos.mpr (ratInt_pos sp))
    · have h1 := sv x
      have h2 := pI_ext (u := W.map (cen p T)) (v := comb m G 0 []) (fun k => by rw [gk, comb_get]; omega) x
      rw [h2, pI_comb, pI_nil] at h1
      have := ratInt_ne s0
      grind
  · have e : gcdL (W.map (cen p T)) ∣ m.natAbs := by
      have := dvd_gcdL (d := ((gcdL (W.map (cen p T)) : Nat) : Int)) (a := m) (v := G) fun y hy => by
        obtain ⟨k, hk⟩ := mem_get hy
        rw [← hk, ← gk]
        by_cases kl : k < (W.map (cen p T)).length
        · exact gcdL_dvd (in_getD kl)
        · rw [getD_out (by omega)]
          exact ⟨0, by simp⟩
      rw [X.I.pr, Nat.mul_one, Int.natAbs_natCast] at this
      exact this
    have := Nat.le_of_dvd (by omega) e
    omega
end Gx
namespace Gx
open Mx Px
/-! the program's primes -/
def pBits : List Int := [127, 521, 1279, 2203, 4253, 9689, 19937, 44497]
theorem prime_at {i : Nat} (h : i ≤ 5) : ∃ b : Nat, pBits[i]? = some (b : Int) ∧ Pr ((2 : Int) ^ b - 1) ∧ b ≤ 9689 ∧ (b < 4300 ∨ (i = 5 ∧ b = 9689)) := by
  match i, h with
  | 0, _ => exact ⟨127, rfl, Pr.of (by decide) LL.p127, by decide, .inl (by decide)⟩
  | 1, _ => exact ⟨521, rfl, Pr.of (by decide) LL.p521, by decide, .inl (by decide)⟩
  | 2, _ => exact ⟨1279, rfl, Pr.of (by decide) LL.p1279, by decide, .inl (by decide)⟩
  | 3, _ => exact ⟨2203, rfl, Pr.of (by decide) LL.p2203, by decide, .inl (by decide)⟩
  | 4, _ => exact ⟨4253, rfl, Pr.of (by decide) LL.p4253, by decide, .inl (by decide)⟩
  | 5, _ => exact ⟨9689, rfl, Pr.of (by decide) LL.p9689, by decide, .inr ⟨rfl, rfl⟩⟩
  | n + 6, h => omega
theorem mers_abs {b : Nat} : ((2 : Int) ^ b - 1).natAbs = 2 ^ b - 1 := by
  have hp : 0 < 2 ^ b := Nat.two_pow_pos b
  have : ((2 : Int) ^ b - 1) = ((2 ^ b - 1 : Nat) : Int) := by
    rw [Int.natCast_sub (by omega), Int.natCast_pow]
    rfl
  rw [this, Int.natAbs_natCast]
/-! cancelling -/
theorem pI_zero_mul {G A : List Int} (hG : lc G ≠ 0) (h : ∀ x, pI G x * pI A x = 0) (x : Rat) : pI A x = 0 := by
  have gl := List.length_pos_iff.mpr (ne_lc hG)
  by_cases q : trim A = []
  · have := pI_trim A x
    rw [q, pI_nil] at this
    exact this.symm
  · obtain ⟨a0, al⟩ := top_ne (trim_last A) q
    have tp := mulL_top G (trim A) gl al
    have z := pI_get (u := mulL G (trim A)) (fun x => by rw [mulL_pI, pI_trim]; exact h x) (G.length - 1 + ((trim A).length - 1))
    rw [z] at tp
    rcases Int.mul_eq_zero.mp tp.symm with w | w
    · exact (hG w).elim
    · exact (a0 w).elim
theorem pI_cancel {G A B : List Int} (hG : lc G ≠ 0) (h : ∀ x, pI G x * pI A x = pI G x * pI B x) (x : Rat) : pI A x = pI B x := by
  have m1 : ((-1 : Int) : Rat) = -1 := rfl
  have := pI_zero_mul hG (A := comb 1 A (-1) B) (fun x => by
    have := h x
    rw [pI_comb, rc1, m1]
    grind) x
  rw [pI_comb, rc1, m1] at this
  grind
/-! fractions of polynomials in lowest terms -/
structure Rat2 (f g N D : List Int) : Prop where
  tn : N.getLast? ≠ some 0
  td : D.getLast? ≠ some 0
  ld : 0 < lc D
  pr : gcdL (N ++ D) = 1
  bz : ∃ (U V : List Int) (R : Int), R ≠ 0 ∧ ∀ x, pI U x * pI N x + pI V x * pI D x = (R : Rat)
  eq : ∀ x, pI f x * pI D x = pI g x * pI N x
theorem len_mul {F D K : List Int} (hD : lc D ≠ 0) (hF : lc F ≠ 0) (e : ∀ x, pI F x = pI D x * pI K x) (tF : F.getLast? ≠ some 0) : D.length ≤ F.length := by
  obtain ⟨z, _, zn, _, l, _⟩ := lc_mul tF (ne_lc hF) hD e
  have := List.length_pos_iff.mpr zn
  omega
theorem Rat2.uniq {f g N D f' g' N' D' : List Int} (h : Rat2 f g N D) (k : Rat2 f' g' N' D') (hg : lc g ≠ 0) (hg' : lc g' ≠ 0) (e : ∀ x, pI f x * pI g' x = pI f' x * pI g x) : N = N' ∧ D = D' := by
  have ld := h.ld
  have ld' := k.ld
  -- N D' = N' D
  have cross : ∀ x, pI N x * pI D' x = pI N' x * pI D x := fun x => by
    have := pI_cancel (G := mulL g g') (A := mulL N D') (B := mulL N' D) (by
      have gl := List.length_pos_iff.mpr (ne_lc hg)
      have gl' := List.length_pos_iff.mpr (ne_lc hg')
      intro z
      have tp := mulL_top g g' gl gl'
      have nz : (mulL g g').getD (g.length - 1 + (g'.length - 1)) 0 ≠ 0 := by rw [tp]; exact Int.mul_ne_zero hg hg'
      have hl : g.length - 1 + (g'.length - 1) < (mulL g g').length := by
        rcases Nat.lt_or_ge (g.length - 1 + (g'.length - 1)) (mulL g g').length with w | w
        · exact w
        · exact (nz (getD_out w)).elim
      have hu : (mulL g g').length ≤ g.length + g'.length - 1 := mulL_len' g g' gl'
      unfold lc at z
      rw [show (mulL g g').length - 1 = g.length - 1 + (g'.length - 1) by omega] at z
      exact nz z) (fun x => by
      rw [mulL_pI, mulL_pI, mulL_pI]
      have a := h.eq x
      have b := k.eq x
      have c := e x
      -- g g' N D' = (f D) g' D' ... = f' g D D' = g g' N' D
      have h1 : pI g x * pI N x * (pI g' x * pI D' x) = pI f x * pI D x * (pI g' x * pI D' x) := by rw [a]
      have h2 : pI g' x * pI N' x * (pI g x * pI D x) = pI f' x * pI D' x * (pI g x * pI D x) := by rw [b]
      grind) x
    rw [mulL_pI, mulL_pI] at this
    exact this
  obtain ⟨U, V, R, R0, eb⟩ := h.bz
  obtain ⟨U', V', R', R0', eb'⟩ := k.bz
  -- D divides R D', D' divides R' D
  have d1 : ∀ x, pI (comb R D' 0 []) x = pI D x * pI (comb 1 (mulL U N') 1 (mulL V D')) x := fun x => by
    rw [pI_comb, pI_nil, pI_comb, mulL_pI, mulL_pI, rc1, ← eb x]
    have := cross x
    grind
  have d2 : ∀ x, pI (comb R' D 0 []) x = pI D' x * pI (comb 1 (mulL U' N) 1 (mulL V' D)) x := fun x => by
    rw [pI_comb, pI_nil, pI_comb, mulL_pI, mulL_pI, rc1, ← eb' x]
    have := cross x
    grind
  have sc : ∀ {c : Int} {X : List Int}, c ≠ 0 → X.getLast? ≠ some 0 → lc X ≠ 0 → (trim (comb c X 0 [])).length = X.length ∧ lc (trim (comb c X 0 [])) = c * lc X := fun {c X} c0 tX lX => by
    have g : ∀ k, (trim (comb c X 0 [])).getD k 0 = c * X.getD k 0 := fun k => by rw [trim_get, comb_get]; omega
    have xl := List.length_pos_iff.mpr (ne_lc lX)
    have a : (trim (comb c X 0 [])).length ≤ X.length := len_of (trim_last _) fun k hk => by rw [g, getD_out (u := X) hk]; omega
    have b : X.length - 1 < (trim (comb c X 0 [])).length := by
      rcases Nat.lt_or_ge (X.length - 1) (trim (comb c X 0 [])).length with w | w
      · exact w
      · have := g (X.length - 1)
        rw [getD_out w] at this
        exact (Int.mul_ne_zero c0 lX this.symm).elim
    have l : (trim (comb c X 0 [])).length = X.length := by omega
    refine ⟨l, ?_⟩
    unfold lc
    rw [l, g]
  obtain ⟨l1, c1⟩ := sc R0 k.td (show lc D' ≠ 0 by omega)
  obtain ⟨l2, c2⟩ := sc R0' h.td (show lc D ≠ 0 by omega)
  have i1 := len_mul (F := trim (comb R D' 0 [])) (D := D) (by omega) (by rw [c1]; exact Int.mul_ne_zero R0 (by omega)) (fun x => (pI_trim _ x).trans (d1 x)) (trim_last _)
  have i2 := len_mul (F := trim (comb R' D 0 [])) (D := D') (by omega) (by rw [c2]; exact Int.mul_ne_zero R0' (by omega)) (fun x => (pI_trim _ x).trans (d2 x)) (trim_last _)
  have hl : D.length = D'.length := by omega
  obtain ⟨z, tz, zn, lz, zl, ez⟩ := lc_mul (trim_last _) (ne_lc (by rw [c1]; exact Int.mul_ne_zero R0 (by omega))) (show lc D ≠ 0 by omega) (fun x => (pI_trim _ x).trans (d1 x))
  have z1 : z.length = 1 := by omega
  obtain ⟨m, rfl⟩ : ∃ m, z = [m] := by
    match z, z1 with
    | [m], _ => exact ⟨m, rfl⟩
  -- R D' = m D
  have rel : ∀ x, (R : Rat) * pI D' x = (m : Rat) * pI D x := fun x => by
    have := ez x
    rw [pI_trim, pI_comb, pI_nil, pI_one] at this
    grind
  have m0 : m ≠ 0 := fun w => tz (by rw [w]; rfl)
  have relN : ∀ x, (R : Rat) * pI N' x = (m : Rat) * pI N x := fun x => by
    have := pI_cancel (G := D) (A := comb R N' 0 []) (B := comb m N 0 []) (by omega) (fun x => by
      rw [pI_comb, pI_comb, pI_nil]
      have a := rel x
      have b := cross x
      grind) x
    rw [pI_comb, pI_comb, pI_nil] at this
    grind
  have kD : ∀ j, R * D'.getD j 0 = m * D.getD j 0 := fun j => by
    have := pI_coef (u := comb R D' 0 []) (v := comb m D 0 []) (fun x => by rw [pI_comb, pI_comb, pI_nil, rel x]) j
    rw [comb_get, comb_get] at this
    omega
  have kN : ∀ j, R * N'.getD j 0 = m * N.getD j 0 := fun j => by
    have := pI_coef (u := comb R N' 0 []) (v := comb m N 0 []) (fun x => by rw [pI_comb, pI_comb, pI_nil, relN x]) j
    rw [comb_get, comb_get] at this
    omega
  have g1 : R.natAbs ∣ m.natAbs * gcdL (N ++ D) := dvd_gcdL fun y hy => by
    rcases List.mem_append.mp hy with w | w
    · obtain ⟨j, hj⟩ := mem_get w
      exact ⟨N'.getD j 0, by rw [← hj, kN]⟩
    · obtain ⟨j, hj⟩ := mem_get w
      exact ⟨D'.getD j 0, by rw [← hj, kD]⟩
  have g2 : m.natAbs ∣ R.natAbs * gcdL (N' ++ D') := dvd_gcdL fun y hy => by
    rcases List.mem_append.mp hy with w | w
    · obtain ⟨j, hj⟩ := mem_get w
      exact ⟨N.getD j 0, by rw [← hj, kN]⟩
    · obtain ⟨j, hj⟩ := mem_get w
      exact ⟨D.getD j 0, by rw [← hj, kD]⟩
  rw [h.pr, Nat.mul_one] at g1
  rw [k.pr, Nat.mul_one] at g2
  have ab := Nat.dvd_antisymm g1 g2
  have lk := kD (D.length - 1)
  have lk2 : R * lc D' = m * lc D := by
    unfold lc
    rw [← hl]
    exact lk
  have em : R = m := by
    rcases Int.natAbs_eq_natAbs_iff.mp ab with w | w
    · exact w
    · exfalso
      rw [w, Int.neg_mul] at lk2
      have a : m * lc D' + m * lc D = 0 := by omega
      rw [← Int.mul_add] at a
      rcases Int.mul_eq_zero.mp a with b | b
      · exact m0 b
      · omega
  constructor
  · refine row_ext h.tn k.tn fun j => ?_
    have := kN j
    rw [em] at this
    exact (Int.eq_of_mul_eq_mul_left m0 this).symm
  · refine row_ext h.td k.td fun j => ?_
    have := kD j
    rw [em] at this
    exact (Int.eq_of_mul_eq_mul_left m0 this).symm
/-! factors are small -/
def evI (u : List Int) (r : Int) : Int := u.foldr (fun a s => a + r * s) 0
theorem evI_pI (u : List Int) (r : Int) : ((evI u r : Int) : Rat) = pI u (r : Rat) := by
  induction u with
  | nil => rfl
  | cons a u ih =>
    rw [pI_cons, ← ih]
    show ((a + r * evI u r : Int) : Rat) = _
    rw [Rat.intCast_add, Rat.intCast_mul]
def sdI (r : Int) : List Int → List Int
  | [] => []
  | [_] => []
  | _ :: u => evI u r :: sdI r u
theorem sdI_len (r : Int) : ∀ u : List Int, (sdI r u).length = u.length - 1
  | [] => rfl
  | [_] => rfl
  | _ :: b :: u => by
    show (sdI r (b :: u)).length + 1 = _
    rw [sdI_len r (b :: u)]
    simp
theorem sdI_pI (r : Int) (x : Rat) : ∀ u : List Int, pI u x = pI u (r : Rat) + (x - (r : Rat)) * pI (sdI r u) x
  | [] => by
    show (0 : Rat) = 0 + (x - r) * 0
    grind
  | [a] => by
    show pI [a] x = pI [a] r + (x - r) * 0
    rw [pI_one, pI_one]
    grind
  | a :: b :: u => by
    have ih := sdI_pI r x (b :: u)
    show pI (a :: b :: u) x = pI (a :: b :: u) r + (x - r) * pI (evI (b :: u) r :: sdI r (b :: u)) x
    rw [pI_cons a, pI_cons a, pI_cons (evI (b :: u) r), evI_pI]
    grind
theorem n1_point (r : Int) {u : List Int} {N M : Nat} (hr : r.natAbs ≤ N) (h1 : (evI u r).natAbs ≤ M) : n1 u ≤ M + (N + 1) * n1 (sdI r u) := by
  have h := n1_comb' 1 1 _ [evI u r] (comb 1 (0 :: sdI r u) (-r) (sdI r u)) u (Nat.le_refl _) fun k => by
    have := pI_coef (u := u) (v := comb 1 [evI u r] 1 (comb 1 (0 :: sdI r u) (-r) (sdI r u))) (fun x => by
      rw [pI_comb, pI_comb, pI_one, pI_cons, evI_pI, rc1, rc0, Rat.intCast_neg]
      have := sdI_pI r x u
      grind) k
    rw [this, comb_get]
  have h2 := n1_comb 1 (0 :: sdI r u) (-r) (sdI r u)
  rw [Int.natAbs_neg] at h2
  have o : (1 : Int).natAbs = 1 := rfl
  have e1 : n1 [evI u r] = (evI u r).natAbs := by
    show (evI u r).natAbs + 0 = _
    omega
  have e2 : n1 (0 :: sdI r u) = n1 (sdI r u) := by
    rw [n1_cons]
    simp
  rw [o, Nat.one_mul, Nat.one_mul, e1] at h
  rw [o, Nat.one_mul, e2] at h2
  have h3 := Nat.mul_le_mul_right (n1 (sdI r u)) hr
  rw [Nat.add_mul, Nat.one_mul]
  omega
/-- a row that is small at as many whole points as it has items is small -/
theorem n1_interp : ∀ (d : Nat) (u : List Int) (rs : List Int) (N M : Nat), u.length ≤ d → rs.length = d → rs.Nodup → (∀ r ∈ rs, r.natAbs ≤ N) → (∀ r ∈ rs, (evI u r).natAbs ≤ M) → n1 u ≤ M * (2 * N + 3) ^ d
  | 0, u, rs, N, M, hu, _, _, _, _ => by
    have : u = [] := List.length_eq_zero_iff.mp (by omega)
    rw [this]
    exact Nat.zero_le _
  | d + 1, u, [], N, M, hu, hr, _, _, _ => by cases hr
  | d + 1, u, r :: rs, N, M, hu, hr, nd, hN, hM => by
    have nd' := List.nodup_cons.mp nd
    have q := n1_interp d (sdI r u) rs N (2 * M) (by rw [sdI_len]; omega) (by simpa using hr) nd'.2 (fun s hs => hN s (List.mem_cons_of_mem _ hs)) (fun s hs => by
      have sr : s ≠ r := fun z => nd'.1 (by rw [← z]; exact hs)
      have e := sdI_pI r (s : Rat) u
      rw [← evI_pI, ← evI_pI, ← evI_pI] at e
      have e2 : evI u s = evI u r + (s - r) * evI (sdI r u) s := by
        apply Rat.intCast_inj.mp
        rw [Rat.intCast_add, Rat.intCast_mul, Rat.intCast_sub]
        exact e
      have a := hM s (List.mem_cons_of_mem _ hs)
      have b := hM r (List.mem_cons_self ..)
      have c : ((s - r) * evI (sdI r u) s).natAbs ≤ 2 * M := by omega
      rw [Int.natAbs_mul] at c
      have : 1 * (evI (sdI r u) s).natAbs ≤ (s - r).natAbs * (evI (sdI r u) s).natAbs := Nat.mul_le_mul_right _ (by omega)
      omega)
    have p := n1_point r (hN r (List.mem_cons_self ..)) (hM r (List.mem_cons_self ..))
    have q2 := Nat.mul_le_mul_left (N + 1) q
    have e0 : (N + 1) * (2 * M) = M * (2 * N + 2) := by
      rw [← Nat.mul_assoc, Nat.mul_comm M]
      congr 1
      omega
    have e1 : (N + 1) * (2 * M * (2 * N + 3) ^ d) = M * (2 * N + 2) * (2 * N + 3) ^ d := by rw [← Nat.mul_assoc, e0]
    have e2 : M * (2 * N + 3) ^ (d + 1) = M * (2 * N + 2) * (2 * N + 3) ^ d + M * (2 * N + 3) ^ d := by
      rw [Nat.pow_succ, Nat.mul_comm ((2 * N + 3) ^ d), ← Nat.mul_assoc, show 2 * N + 3 = 2 * N + 2 + 1 by omega, Nat.mul_add, Nat.mul_one, Nat.add_mul]
    have e3 : M ≤ M * (2 * N + 3) ^ d := Nat.le_mul_of_pos_right _ (Nat.pow_pos (by omega))
    omega
theorem evI_bd {r : Int} {N : Nat} (h : r.natAbs ≤ N) (hN : 1 ≤ N) : ∀ u : List Int, (evI u r).natAbs ≤ n1 u * N ^ u.length
  | [] => Nat.zero_le _
  | a :: u => by
    have ih := evI_bd h hN u
    show (a + r * evI u r).natAbs ≤ (a.natAbs + n1 u) * N ^ (u.length + 1)
    have h1 : (a + r * evI u r).natAbs ≤ a.natAbs + r.natAbs * (evI u r).natAbs := by
      rw [← Int.natAbs_mul]
      omega
    have h2 := Nat.mul_le_mul h ih
    have p1 : 1 ≤ N ^ (u.length + 1) := Nat.one_le_pow _ _ hN
    have h3 : a.natAbs ≤ a.natAbs * N ^ (u.length + 1) := Nat.le_mul_of_pos_right _ p1
    have h4 : N * (n1 u * N ^ u.length) = n1 u * N ^ (u.length + 1) := by rw [Nat.pow_succ]; grind
    rw [Nat.add_mul]
    omega
theorem nodup_ints (n : Nat) : ((List.range n).map fun i : Nat => (i : Int)).Nodup := by
  refine List.Pairwise.map _ (fun a b h z => h ?_) (List.nodup_range (n := n))
  omega
/-- a factor is small -/
theorem fbd {f D K : List Int} {L : Nat} (tf : f.getLast? ≠ some 0) (nf : f ≠ []) (tD : D.getLast? ≠ some 0) (hD : D ≠ []) (e : ∀ x, pI f x = pI D x * pI K x) (hl : f.length ≤ L) : n1 D ≤ n1 f * (2 * L) ^ L * (4 * L + 3) ^ L := by
  have fl := List.length_pos_iff.mpr nf
  have l0 := lc_ne tf nf
  have dl := len_mul (lc_ne tD hD) l0 e tf
  obtain ⟨all, hall⟩ : ∃ all : List Int, all = (List.range (2 * L)).map fun i : Nat => (i : Int) := ⟨_, rfl⟩
  have nd : all.Nodup := by rw [hall]; exact nodup_ints _
  have la : all.length = 2 * L := by rw [hall, List.length_map, List.length_range]
  have ba : ∀ r ∈ all, r.natAbs ≤ 2 * L := fun r hr => by
    rw [hall] at hr
    obtain ⟨i, hi, rfl⟩ := List.mem_map.mp hr
    have := List.mem_range.mp hi
    omega
  have roots : (all.filter fun r => decide (evI f r = 0)).length < f.length := by
    refine Classical.byContradiction fun ge => ?_
    have ge : f.length ≤ (all.filter fun r => decide (evI f r = 0)).length := by omega
    have h := n1_interp _ f (all.filter fun r => decide (evI f r = 0)) (2 * L) 0 ge rfl (nd.filter _) (fun r hr => ba r (List.mem_filter.mp hr).1) (fun r hr => by
      have := (List.mem_filter.mp hr).2
      rw [of_decide_eq_true this]
      exact Nat.le_refl _)
    rw [Nat.zero_mul] at h
    have := n1_get f (f.length - 1)
    unfold lc at l0
    omega
  have split : ∀ (p : Int → Bool) (u : List Int), (u.filter p).length + (u.filter fun r => !p r).length = u.length := fun p u => by
    induction u with
    | nil => rfl
    | cons a u ih =>
      by_cases q : p a = true
      · rw [List.filter_cons_of_pos q, List.filter_cons_of_neg (by simp [q])]
        simp only [List.length_cons]
        omega
      · rw [List.filter_cons_of_neg q, List.filter_cons_of_pos (by simpa using q)]
        simp only [List.length_cons]
        omega
  have sp := split (fun r => decide (evI f r = 0)) all
  obtain ⟨good, hgood⟩ : ∃ good, good = all.filter fun r => !decide (evI f r = 0) := ⟨_, rfl⟩
  rw [← hgood] at sp
  have gl : L ≤ good.length := by omega
  have gm : ∀ r ∈ good.take L, r.natAbs ≤ 2 * L ∧ evI f r ≠ 0 := fun r hr => by
    have hr := List.mem_of_mem_take hr
    rw [hgood] at hr
    obtain ⟨a, b⟩ := List.mem_filter.mp hr
    exact ⟨ba r a, by simpa using b⟩
  have h := n1_interp L D (good.take L) (2 * L) (n1 f * (2 * L) ^ L) (by omega) (by rw [List.length_take]; omega) ((by rw [hgood]; exact nd.filter _ : good.Nodup).sublist (List.take_sublist _ _)) (fun r hr => (gm r hr).1) (fun r hr => by
    obtain ⟨a, b⟩ := gm r hr
    have e1 : evI f r = evI D r * evI K r := by
      apply Rat.intCast_inj.mp
      rw [Rat.intCast_mul, evI_pI, evI_pI, evI_pI, e]
    have k0 : evI K r ≠ 0 := fun z => b (by rw [e1, z, Int.mul_zero])
    have h1 : (evI D r).natAbs ≤ (evI f r).natAbs := by
      rw [e1, Int.natAbs_mul]
      exact Nat.le_mul_of_pos_right _ (by omega)
    have h2 := evI_bd a (by omega) f
    have h3 : (2 * L) ^ f.length ≤ (2 * L) ^ L := Nat.pow_le_pow_right (by omega) hl
    have h4 := Nat.mul_le_mul_left (n1 f) h3
    omega)
  rw [show 2 * (2 * L) + 3 = 4 * L + 3 by omega] at h
  exact h
end Gx
namespace Gx
open Mx Px
def dv (g : Int) (u : List Int) : List Int := u.map fun x => x / g
theorem dv_get {g : Int} {u : List Int} (h : ∀ x ∈ u, g ∣ x) (k : Nat) : u.getD k 0 = g * (dv g u).getD k 0 := by
  unfold dv
  rw [map_getD (f := fun x => x / g) (Int.zero_ediv g)]
  by_cases q : k < u.length
  · rw [Int.mul_ediv_cancel' (h _ (in_getD q))]
  · rw [getD_out (u := u) (by omega)]
    simp
theorem dv_pI {g : Int} {u : List Int} (h : ∀ x ∈ u, g ∣ x) (x : Rat) : pI u x = (g : Rat) * pI (dv g u) x := by
  have := pI_ext (u := u) (v := comb g (dv g u) 0 []) (fun k => by rw [comb_get, dv_get h k]; omega) x
  rw [this, pI_comb, pI_nil]
  grind
theorem dv_last {g : Int} {u : List Int} (h : ∀ x ∈ u, g ∣ x) (t : u.getLast? ≠ some 0) : (dv g u).getLast? ≠ some 0 := fun z => by
  obtain ⟨a, b⟩ := last_getD z
  have l : (dv g u).length = u.length := List.length_map ..
  have := dv_get h (u.length - 1)
  rw [l] at a
  rw [a, Int.mul_zero] at this
  have un : u ≠ [] := List.length_pos_iff.mp (by omega)
  exact lc_ne t un this
theorem neg_all (u : List Int) : ∀ x ∈ u, (-1 : Int) ∣ x := fun x _ => ⟨-x, by omega⟩
theorem dv_neg (u : List Int) (k : Nat) : (dv (-1) u).getD k 0 = - u.getD k 0 := by
  have := dv_get (neg_all u) k
  omega
/-- the quotient's form -/
theorem quot_form {f G Q : List Int} (tf : f.getLast? ≠ some 0) (nf : f ≠ []) (hG : lc G ≠ 0) (e : ∀ x, pI f x = pI G x * pI Q x) (l : Q.length = f.length + 1 - G.length) : Q.getLast? ≠ some 0 ∧ Q ≠ [] ∧ gcdL Q ∣ gcdL f := by
  obtain ⟨z, tz, zn, lz, zl, ez⟩ := lc_mul tf nf hG e
  have eq : ∀ k, Q.getD k 0 = z.getD k 0 := pI_coef (pI_cancel hG fun x => by rw [← e x, ← ez x])
  have zp := List.length_pos_iff.mpr zn
  have ll : Q.length = z.length := by omega
  refine ⟨fun w => ?_, List.length_pos_iff.mp (by omega), ?_⟩
  · obtain ⟨a, b⟩ := last_getD w
    rw [eq, ll] at a
    exact lc_ne tz zn a
  · have hd : ∀ x ∈ Q, ((gcdL Q : Nat) : Int) ∣ x := fun x hx => gcdL_dvd hx
    have := all_dvd (d := ((gcdL Q : Nat) : Int)) (u := f) fun k => by
      have h := pI_coef (u := f) (v := comb ((gcdL Q : Nat) : Int) (mulL G (dv ((gcdL Q : Nat) : Int) Q)) 0 []) (fun x => by
        rw [e, dv_pI hd, pI_comb, pI_nil, mulL_pI]
        grind) k
      rw [h, comb_get]
      exact ⟨_, by rw [Int.zero_mul, Int.add_zero]⟩
    rwa [Int.natAbs_natCast] at this
theorem gcdL_neg (u : List Int) : gcdL (dv (-1) u) = gcdL u := by
  have := gcdL_scale (-1) u
  have e : (u.map fun x => (-1) * x) = dv (-1) u := by
    unfold dv
    refine List.map_congr_left fun x _ => ?_
    omega
  rw [e] at this
  simpa using this
/-- in lowest terms -/
theorem rat_of {f g G Qn Qd : List Int} {B : Nat} (tf : f.getLast? ≠ some 0) (nf : f ≠ []) (tg : g.getLast? ≠ some 0) (ng : g ≠ []) (I : IsG (rdc f) (rdc g) G B) (en : ∀ x, pI f x = pI G x * pI Qn x) (ed : ∀ x, pI g x = pI G x * pI Qd x) (ln : Qn.length = f.length + 1 - G.length) (ld : Qd.length = g.length + 1 - G.length) :
    ∃ g0 : Int, g0 = ((gcdL (Qn ++ Qd) : Nat) : Int) ∧ 0 < g0 ∧ gcdL (Qn ++ Qd) ∣ gcdL f ∧ (∃ x ∈ Qn ++ Qd, x ≠ 0) ∧ (0 < lc (dv g0 Qd) → Rat2 f g (dv g0 Qn) (dv g0 Qd)) ∧ (¬ 0 < lc (dv g0 Qd) → Rat2 f g (dv (-1) (dv g0 Qn)) (dv (-1) (dv g0 Qd))) ∧ dv g0 Qd ≠ [] ∧ dv g0 Qn ≠ [] := by
  have lG := I.ld
  obtain ⟨tn, nn, gn⟩ := quot_form tf nf (by omega) en ln
  obtain ⟨td, nd, gd⟩ := quot_form tg ng (by omega) ed ld
  have nz : ∃ x ∈ Qn ++ Qd, x ≠ 0 := ⟨_, List.mem_append_left _ (mem_getD (lc_ne tn nn)), lc_ne tn nn⟩
  have gp := gcdL_pos nz
  obtain ⟨g0, hg0⟩ : ∃ g0 : Int, g0 = ((gcdL (Qn ++ Qd) : Nat) : Int) := ⟨_, rfl⟩
  have g0p : 0 < g0 := by omega
  have hn : ∀ x ∈ Qn, g0 ∣ x := fun x hx => by rw [hg0]; exact gcdL_dvd (List.mem_append_left _ hx)
  have hd : ∀ x ∈ Qd, g0 ∣ x := fun x hx => by rw [hg0]; exact gcdL_dvd (List.mem_append_right _ hx)
  have pr : gcdL (dv g0 Qn ++ dv g0 Qd) = 1 := by
    have h := prim_gcd nz
    unfold prim at h
    rw [← hg0, List.map_append] at h
    exact h
  obtain ⟨U, V, R, R0, _, eb⟩ := I.bz
  obtain ⟨_, _, _, _, _, s1, s10, _, v1, _⟩ := rdc_spec tf nf
  obtain ⟨_, _, _, _, _, s2, s20, _, v2, _⟩ := rdc_spec tg ng
  have gr := ratInt_ne (a := g0) (by omega)
  have r1 := ratInt_ne s10
  have r2 := ratInt_ne s20
  -- U s2 Qn + V s1 Qd = R s1 s2
  have bz : ∀ x, pI (comb (s2 * g0) U 0 []) x * pI (dv g0 Qn) x + pI (comb (s1 * g0) V 0 []) x * pI (dv g0 Qd) x = ((R * (s1 * s2) : Int) : Rat) := fun x => by
    have := pI_cancel (G := G) (A := comb s2 (mulL U Qn) s1 (mulL V Qd)) (B := [R * (s1 * s2)]) (by omega) (fun x => by
      have a := eb x
      have b := v1 x
      have c := v2 x
      have d := en x
      have e := ed x
      rw [pI_comb, mulL_pI, mulL_pI, pI_one, Rat.intCast_mul, Rat.intCast_mul]
      have h1 : (s1 : Rat) * pI (rdc f) x = pI G x * pI Qn x := by rw [← b, d]
      have h2 : (s2 : Rat) * pI (rdc g) x = pI G x * pI Qd x := by rw [← c, e]
      have h3 : pI G x * ((s2 : Rat) * (pI U x * pI Qn x) + (s1 : Rat) * (pI V x * pI Qd x)) = (s2 : Rat) * pI U x * (pI G x * pI Qn x) + (s1 : Rat) * pI V x * (pI G x * pI Qd x) := by grind
      rw [h3, ← h1, ← h2]
      have h4 : (s2 : Rat) * pI U x * ((s1 : Rat) * pI (rdc f) x) + (s1 : Rat) * pI V x * ((s2 : Rat) * pI (rdc g) x) = (s1 : Rat) * (s2 : Rat) * (pI U x * pI (rdc f) x + pI V x * pI (rdc g) x) := by grind
      rw [h4, a]
      grind) x
    rw [pI_comb, mulL_pI, mulL_pI, pI_one] at this
    rw [← this, pI_comb, pI_comb, pI_nil, Rat.intCast_mul, Rat.intCast_mul, dv_pI hn, dv_pI hd]
    grind
  have RR : R * (s1 * s2) ≠ 0 := Int.mul_ne_zero R0 (Int.mul_ne_zero s10 s20)
  have eq : ∀ x, pI f x * pI (dv g0 Qd) x = pI g x * pI (dv g0 Qn) x := fun x => by
    rw [en, ed, dv_pI hn, dv_pI hd]
    grind
  have tn' := dv_last hn tn
  have td' := dv_last hd td
  have nd' : dv g0 Qd ≠ [] := fun z => nd (by unfold dv at z; exact List.map_eq_nil_iff.mp z)
  have nn' : dv g0 Qn ≠ [] := fun z => nn (by unfold dv at z; exact List.map_eq_nil_iff.mp z)
  have m1 : ((-1 : Int) : Rat) = -1 := rfl
  refine ⟨g0, hg0, g0p, ?_, nz, fun lp => ⟨tn', td', lp, pr, ⟨_, _, _, RR, bz⟩, eq⟩, fun lp => ?_, nd', nn'⟩
  · rw [gcdL_append]
    exact Nat.dvd_trans (Nat.gcd_dvd_left _ _) gn
  · have l0 := lc_ne td' nd'
    have lneg : lc (dv (-1) (dv g0 Qd)) = - lc (dv g0 Qd) := by
      unfold lc
      rw [dv_neg, show (dv (-1) (dv g0 Qd)).length = (dv g0 Qd).length from List.length_map ..]
    have np : ∀ (u : List Int) x, pI u x = - pI (dv (-1) u) x := fun u x => by
      rw [dv_pI (neg_all u), m1]
      grind
    refine ⟨dv_last (neg_all _) tn', dv_last (neg_all _) td', by omega, ?_, ⟨comb (s2 * g0) U 0 [], comb (s1 * g0) V 0 [], - (R * (s1 * s2)), by omega, fun x => ?_⟩, fun x => ?_⟩
    · rw [gcdL_append, gcdL_neg, gcdL_neg, ← gcdL_append]
      exact pr
    · have := bz x
      rw [np (dv g0 Qn), np (dv g0 Qd)] at this
      rw [Rat.intCast_neg, ← this]
      grind
    · have := eq x
      rw [np (dv g0 Qn), np (dv g0 Qd)] at this
      grind
end Gx
namespace Gx
open PySem DL Mx Px
/-! ### small rows of a machine with ratios -/
/-! ### what the root answers -/
structure Sml (m : List Ds) (U V : List Int) (c : Rat) : Prop where
  c0 : 0 < c
  hv : ∀ x, pI U x = c * hM (mq m) x 0
  fv : ∀ x, pI V x = c * fM (mq m) x 0
  nu : n1 U < 2 ^ 93
  nv : n1 V < 2 ^ 93
  lu : U.length ≤ 5
  lv : V.length ≤ 6
  tu : U.getLast? ≠ some 0
  tv : V.getLast? ≠ some 0
  un : U ≠ []
  vn : V ≠ []
end Gx
namespace Gx
open PySem DL Mx Px
theorem lc_negd (u : List Int) : lc (dv (-1) u) = - lc u := by
  unfold lc
  rw [dv_neg, show (dv (-1) u).length = u.length from List.length_map ..]
theorem rdc_eq {f u : List Int} {z : Rat} (tf : f.getLast? ≠ some 0) (nf : f ≠ []) (tu : u.getLast? ≠ some 0) (nu : u ≠ []) (hz : z ≠ 0) (e : ∀ x, pI f x = z * pI u x) : rdc f = rdc u := by
  obtain ⟨gf, lf, tf', _, _, s, s0, _, sv, _⟩ := rdc_spec tf nf
  obtain ⟨gu, lu, tu', _, _, t, t0, _, tv, _⟩ := rdc_spec tu nu
  have sr := ratInt_ne s0
  have tr := ratInt_ne t0
  obtain ⟨c, hc⟩ : ∃ c : Rat, c = z * (t : Rat) / (s : Rat) := ⟨_, rfl⟩
  have key : ∀ x, pI (rdc f) x = c * pI (rdc u) x := fun x => by
    have a := sv x
    have b := tv x
    have d := e x
    rw [hc]
    grind
  have c0 : c ≠ 0 := fun w => by
    have : z * (t : Rat) = 0 := by grind
    rcases Rat.mul_eq_zero.mp this with a | a
    · exact hz a
    · exact tr a
  have : c < 0 ∨ 0 < c := by grind
  rcases this with q | q
  · exfalso
    have := prim_uniq (c := -c) (u := rdc f) (v := dv (-1) (rdc u)) (by grind) (fun x => by
      have a := dv_pI (neg_all (rdc u)) x
      have m1 : ((-1 : Int) : Rat) = -1 := rfl
      rw [m1] at a
      rw [key]
      grind) gf (by rw [gcdL_neg]; exact gu) tf' (dv_last (neg_all _) tu')
    rw [this, lc_negd] at lf
    omega
  · exact prim_uniq q key gf gu tf' tu'
theorem rdc_self {u : List Int} (t : u.getLast? ≠ some 0) (n : u ≠ []) (g : gcdL u = 1) (l : 0 < lc u) : rdc u = u := by
  obtain ⟨gu, lu, tu', _, _, s, s0, _, sv, sk⟩ := rdc_spec t n
  have sp : 0 < s := by
    have : lc u = s * lc (rdc u) := by
      unfold lc
      rw [show (rdc u).length = u.length by
        obtain ⟨_, _, _, _, a, _⟩ := rdc_spec t n
        exact a]
      exact sk _
    rcases Int.lt_trichotomy s 0 with z | z | z
    · have := Int.mul_neg_of_neg_of_pos z lu
      omega
    · exact (s0 z).elim
    · exact z
  refine (prim_uniq (c := (s : Rat)) (ratInt_pos sp) sv g gu t tu').symm
structure AnsOk (m : List Ds) (N D : List Int) : Prop where
  r : ∃ (f g : List Int) (c : Rat), 0 < c ∧ (∀ x, pI f x = c * hM (mq m) x 0) ∧ (∀ x, pI g x = c * fM (mq m) x 0) ∧ lc g ≠ 0 ∧ Rat2 f g N D
theorem AnsOk.uniq {m n : List Ds} {N D N' D' : List Int} (h : AnsOk m N D) (k : AnsOk n N' D') {z : Rat} (e1 : ∀ x, hM (mq n) x 0 = z * hM (mq m) x 0) (e2 : ∀ x, fM (mq n) x 0 = z * fM (mq m) x 0) : N = N' ∧ D = D' := by
  obtain ⟨f, g, c, c0, hf, hg, l, R⟩ := h.r
  obtain ⟨f', g', c', c0', hf', hg', l', R'⟩ := k.r
  refine R.uniq R' l l' fun x => ?_
  rw [hf, hg, hf', hg', e1, e2]
  grind
theorem AnsOk.of {m : List Ds} {f g N D : List Int} {c : Rat} (c0 : 0 < c) (hf : ∀ x, pI f x = c * hM (mq m) x 0) (hg : ∀ x, pI g x = c * fM (mq m) x 0) (tg : g.getLast? ≠ some 0) (ng : g ≠ []) (R : Rat2 f g N D) : AnsOk m N D := ⟨f, g, c, c0, hf, hg, lc_ne tg ng, R⟩
/-- bounds of what is in lowest terms -/
theorem n1_dv {g : Int} : ∀ u : List Int, n1 (dv g u) ≤ n1 u
  | [] => Nat.le_refl _
  | a :: u => by
    have ih := n1_dv (g := g) u
    have := Int.natAbs_ediv_le_natAbs a g
    show (a / g).natAbs + n1 (dv g u) ≤ a.natAbs + n1 u
    omega
theorem rat2_bd {f g N D : List Int} (R : Rat2 f g N D) (tf : f.getLast? ≠ some 0) (nf : f ≠ []) (tg : g.getLast? ≠ some 0) (ng : g ≠ []) (bf : n1 f < 2 ^ 93) (bg : n1 g < 2 ^ 93) (lf : f.length ≤ 6) (lg : g.length ≤ 6) : n1 N < 2 ^ 145 ∧ n1 D < 2 ^ 145 ∧ N.length ≤ f.length ∧ D.length ≤ g.length := by
  obtain ⟨a1, a2, a3, a4, a5, s1, s10, _, v1, _⟩ := rdc_spec tf nf
  obtain ⟨b1, b2, b3, b4, b5, s2, s20, _, v2, _⟩ := rdc_spec tg ng
  obtain ⟨G, I⟩ := isg a3 b3 (h := 93) (L := 6) (by omega) (by omega) (by omega) (by omega) (.inl (ne_lc (by omega)))
  have lG := I.ld
  have div : ∀ {f F : List Int} {s : Int}, f.getLast? ≠ some 0 → f ≠ [] → (∀ x, pI f x = (s : Rat) * pI F x) → (∃ Q, ∀ x, pI F x = pI G x * pI Q x) → n1 f < 2 ^ 93 → f.length ≤ 6 → ∃ Q : List Int, (∀ x, pI f x = pI G x * pI Q x) ∧ Q.length = f.length + 1 - G.length ∧ n1 Q < 2 ^ 145 ∧ Q.length ≤ f.length := fun {f F s} t n v hq b l => by
    obtain ⟨Q, e⟩ := hq
    have e2 : ∀ x, pI f x = pI G x * pI (comb s Q 0 []) x := fun x => by
      rw [v, e, pI_comb, pI_nil]
      grind
    obtain ⟨z, tz, zn, lz, zl, ez⟩ := lc_mul t n (show lc G ≠ 0 by omega) e2
    have bd := fbd t n tz zn (fun x => (ez x).trans (Rat.mul_comm _ _)) (L := 6) l
    have gl := List.length_pos_iff.mpr (ne_lc (show lc G ≠ 0 by omega))
    have c : (2 * 6) ^ 6 * (4 * 6 + 3) ^ 6 < 2 ^ 52 := by decide
    rw [Nat.mul_assoc] at bd
    have m1 : n1 f * ((2 * 6) ^ 6 * (4 * 6 + 3) ^ 6) < 2 ^ 93 * 2 ^ 52 := Nat.mul_lt_mul'' b c
    rw [← Nat.pow_add] at m1
    exact ⟨z, ez, by omega, Nat.lt_of_le_of_lt bd m1, by omega⟩
  obtain ⟨Qn, en, ln, bn, ln2⟩ := div tf nf v1 I.df bf lf
  obtain ⟨Qd, ed, ld, bd, ld2⟩ := div tg ng v2 I.dg bg lg
  obtain ⟨g0, hg0, g0p, gdv, nz, pos, neg, nd', nn'⟩ := rat_of tf nf tg ng I en ed ln ld
  have l0 := lc_ne tg ng
  have lv : ∀ (c : Int) (u : List Int), (dv c u).length = u.length := fun c u => List.length_map ..
  by_cases q : 0 < lc (dv g0 Qd)
  · obtain ⟨rfl, rfl⟩ := R.uniq (pos q) l0 l0 fun x => rfl
    exact ⟨Nat.lt_of_le_of_lt (n1_dv _) bn, Nat.lt_of_le_of_lt (n1_dv _) bd, by rw [lv]; exact ln2, by rw [lv]; exact ld2⟩
  · obtain ⟨rfl, rfl⟩ := R.uniq (neg q) l0 l0 fun x => rfl
    exact ⟨Nat.lt_of_le_of_lt (Nat.le_trans (n1_dv _) (n1_dv _)) bn, Nat.lt_of_le_of_lt (Nat.le_trans (n1_dv _) (n1_dv _)) bd, by rw [lv, lv]; exact ln2, by rw [lv, lv]; exact ld2⟩
theorem sml_rat {m : List Ds} {U V N D : List Int} {c : Rat} (S : Sml m U V c) (h : AnsOk m N D) : Rat2 U V N D := by
  obtain ⟨f, g, d, d0', hf, hg, l, R⟩ := h.r
  have := S.c0
  refine ⟨R.tn, R.td, R.ld, R.pr, R.bz, fun x => ?_⟩
  have e := R.eq x
  rw [hf, hg] at e
  rw [S.hv, S.fv]
  have dn : d ≠ 0 := by grind
  have e1 : d * (hM (mq m) x 0 * pI D x - fM (mq m) x 0 * pI N x) = 0 := by grind
  rcases Rat.mul_eq_zero.mp e1 with w | w
  · exact (dn w).elim
  · grind
theorem AnsOk.bd {m : List Ds} {U V N D : List Int} {c : Rat} (S : Sml m U V c) (h : AnsOk m N D) : n1 N < 2 ^ 145 ∧ n1 D < 2 ^ 145 ∧ N.length ≤ 5 ∧ D.length ≤ 6 := by
  have lu := S.lu
  have lv := S.lv
  obtain ⟨a, b, c, d⟩ := rat2_bd (sml_rat S h) S.tu S.un S.tv S.vn S.nu S.nv (by omega) (by omega)
  exact ⟨a, b, by omega, by omega⟩
end Gx
namespace Gx
open PySem DL Mx Px
structure HidOk (m : List Ds) (Q : List Int) : Prop where
  r : ∃ u N D : List Int, EndOk m u ∧ u ≠ [] ∧ AnsOk m N D ∧ (∀ x, pI (rdc u) x = pI (rdc D) x * pI Q x) ∧ Q.length = u.length + 1 - D.length
theorem HidOk.uniq {m n : List Ds} {Q Q' : List Int} (h : HidOk m Q) (k : HidOk n Q') {z : Rat} (z0 : 0 < z) (e1 : ∀ x, hM (mq n) x 0 = z * hM (mq m) x 0) (e2 : ∀ x, fM (mq n) x 0 = z * fM (mq m) x 0) : Q = Q' := by
  obtain ⟨u, N, D, E, un, A, e, l⟩ := h.r
  obtain ⟨u', N', D', E', un', A', e', l'⟩ := k.r
  obtain rfl := E.uniq E' z0 e2
  obtain ⟨rfl, rfl⟩ := A.uniq A' e1 e2
  obtain ⟨_, _, _, _, _, _, _, R⟩ := A.r
  have ld := R.ld
  have dn : D ≠ [] := ne_lc (by omega)
  obtain ⟨_, lD, _, _⟩ := rdc_spec R.td dn
  have c := pI_coef (pI_cancel (G := rdc D) (A := Q) (B := Q') (by omega) fun x => by rw [← e, ← e'])
  refine List.ext_getElem (by omega) fun k h1 h2 => ?_
  have := c k
  rw [List.getD_eq_getElem?_getD, List.getD_eq_getElem?_getD, List.getElem?_eq_getElem h1, List.getElem?_eq_getElem h2] at this
  exact this
theorem gcd_n1 {f : List Int} (t : f.getLast? ≠ some 0) (n : f ≠ []) : gcdL f ≤ n1 f := by
  have l := lc_ne t n
  have h1 := Int.natAbs_dvd_natAbs.mpr (gcdL_dvd (mem_getD l))
  rw [Int.natAbs_natCast] at h1
  have l2 : (f.getD (f.length - 1) 0).natAbs ≠ 0 := by
    have : f.getD (f.length - 1) 0 ≠ 0 := l
    omega
  have h2 := Nat.le_of_dvd (by omega) h1
  exact Nat.le_trans h2 (lc_n1 f)
/-! ### a pair of rows and what comes of it by Euclid's way -/
def Lin (f g a : List Int) : Prop := ∃ (U V : List Int) (R : Int), R ≠ 0 ∧ ∀ x, (R : Rat) * pI a x = pI U x * pI f x + pI V x * pI g x
structure Cm (f g a b : List Int) : Prop where
  la : Lin f g a
  lb : Lin f g b
  lf : Lin a b f
  lg : Lin a b g
theorem Lin.fst (f g : List Int) : Lin f g f := ⟨[1], [], 1, by decide, fun x => by rw [pI_one, pI_nil]; grind⟩
theorem Lin.snd (f g : List Int) : Lin f g g := ⟨[], [1], 1, by decide, fun x => by rw [pI_one, pI_nil]; grind⟩
theorem Cm.refl (f g : List Int) : Cm f g f g := ⟨.fst f g, .snd f g, .fst f g, .snd f g⟩
theorem Lin.lin {f g a b r : List Int} (ha : Lin f g a) (hb : Lin f g b) {A B : List Int} {d : Int} (d0 : d ≠ 0) (e : ∀ x, (d : Rat) * pI r x = pI A x * pI a x + pI B x * pI b x) : Lin f g r := by
  obtain ⟨U, V, R, R0, h1⟩ := ha
  obtain ⟨U', V', R', R0', h2⟩ := hb
  refine ⟨comb R' (mulL A U) R (mulL B U'), comb R' (mulL A V) R (mulL B V'), R * R' * d, Int.mul_ne_zero (Int.mul_ne_zero R0 R0') d0, fun x => ?_⟩
  have i1 := h1 x
  have i2 := h2 x
  rw [pI_comb, pI_comb, mulL_pI, mulL_pI, mulL_pI, mulL_pI, Rat.intCast_mul, Rat.intCast_mul]
  have h3 : (R : Rat) * (R' : Rat) * (d : Rat) * pI r x = (R : Rat) * (R' : Rat) * ((d : Rat) * pI r x) := by grind
  rw [h3, e]
  have h4 : (R : Rat) * (R' : Rat) * (pI A x * pI a x + pI B x * pI b x) = (R' : Rat) * pI A x * ((R : Rat) * pI a x) + (R : Rat) * pI B x * ((R' : Rat) * pI b x) := by grind
  rw [h4, i1, i2]
  grind
theorem Cm.step {f g a b r Q : List Int} {c d : Int} (h : Cm f g a b) (c0 : c ≠ 0) (d0 : d ≠ 0) (e : ∀ x, (c : Rat) * pI a x = pI Q x * pI b x + (d : Rat) * pI r x) : Cm f g b r := by
  have m1 : ((-1 : Int) : Rat) = -1 := rfl
  have ar : Lin b r a := ⟨Q, [d], c, c0, fun x => by rw [e, pI_one]⟩
  have tr : ∀ {y : List Int}, Lin a b y → Lin b r y := fun {y} hy => by
    obtain ⟨U, V, R, R0, h1⟩ := hy
    exact Lin.lin ar (.fst b r) R0 h1
  refine ⟨h.lb, Lin.lin h.la h.lb (A := [c]) (B := comb (-1) Q 0 []) d0 fun x => ?_, tr h.lf, tr h.lg⟩
  rw [pI_one, pI_comb, pI_nil, m1]
  have := e x
  grind
theorem Cm.isg {f g a : List Int} (h : Cm f g a []) (t : a.getLast? ≠ some 0) (n : a ≠ []) : ∃ B, IsG f g (rdc a) B := by
  obtain ⟨gA, lA, tA, _, _, s, s0, _, sv, _⟩ := rdc_spec t n
  have dv : ∀ {y : List Int}, Lin a [] y → ∃ Q, ∀ x, pI y x = pI (rdc a) x * pI Q x := fun {y} hy => by
    obtain ⟨U, V, R, R0, h1⟩ := hy
    refine prim_div _ R y (rdc a) (comb s U 0 []) (Nat.le_refl _) R0 gA fun x => ?_
    rw [h1, pI_comb, pI_nil, sv]
    grind
  obtain ⟨U, V, R, R0, h1⟩ := h.la
  refine ⟨n1 (rdc a) + (R * s).natAbs, gA, lA, tA, ?_, dv h.lf, dv h.lg, U, V, R * s, Int.mul_ne_zero R0 s0, ?_, fun x => ?_⟩
  · have := Nat.lt_two_pow_self (n := n1 (rdc a) + (R * s).natAbs)
    omega
  · have := Nat.lt_two_pow_self (n := n1 (rdc a) + (R * s).natAbs)
    omega
  · rw [← h1, sv, Rat.intCast_mul]
    grind
end Gx
namespace Gx
open PySem DL Mx Px
theorem ints_nd : ∀ u : List Int, PyData.hasDictAll (u.map .int) = false
  | [] => rfl
  | a :: u => by
    show (PyData.hasDict (.int a) || PyData.hasDictAll (u.map .int)) = false
    rw [ints_nd u]
    rfl
theorem ints_eqv : ∀ u v : List Int, PyData.eqvAll (u.map .int) (v.map .int) = decide (u = v)
  | [], [] => rfl
  | [], _ :: _ => by simp [PyData.eqvAll]
  | _ :: _, [] => by simp [PyData.eqvAll]
  | a :: u, b :: v => by
    have ih := ints_eqv u v
    simp only [List.map_cons, PyData.eqvAll, ih]
    by_cases q : a = b
    · subst q
      simp [PyData.eqv]
    · simp [PyData.eqv, q]
theorem gcd_snoc (u : List Int) (x : Int) : gcdL (u ++ [x]) = Nat.gcd (gcdL u) x.natAbs := by
  rw [gcdL_append]
  show Nat.gcd _ (Nat.gcd x.natAbs 0) = _
  rw [Nat.gcd_zero_right]
/-- what is divided by a part greater than one, or left -/
theorem prim_le {u : List Int} (h : gcdL u ≤ 1) : prim u = u := by
  have : ∀ x ∈ u, x / ((gcdL u : Nat) : Int) = x := fun x hx => by
    rcases Nat.le_one_iff_eq_zero_or_eq_one.mp h with q | q
    · have d := gcdL_dvd hx
      rw [q] at d ⊢
      obtain ⟨k, hk⟩ := d
      rw [hk]
      simp
    · rw [q]
      simp
  unfold prim
  conv => rhs; rw [← List.map_id u]
  exact List.map_congr_left fun x hx => by rw [this x hx]; rfl
theorem prim_pI0 (u : List Int) : ∃ g : Int, 0 < g ∧ ∀ x, pI u x = (g : Rat) * pI (prim u) x := by
  by_cases q : gcdL u ≤ 1
  · exact ⟨1, by decide, fun x => by rw [prim_le q, rc1]; grind⟩
  · refine ⟨((gcdL u : Nat) : Int), by omega, fun x => ?_⟩
    exact dv_pI (fun x hx => gcdL_dvd hx) x
theorem prim_n1 (u : List Int) : n1 (prim u) ≤ n1 u := n1_dv (g := ((gcdL u : Nat) : Int)) u
theorem prim_trim {u : List Int} (h : u.getLast? ≠ some 0) : (prim u).getLast? ≠ some 0 := dv_last (fun x hx => gcdL_dvd hx) h
theorem rdc_prim (u : List Int) : rdc u = if lc u < 0 then (prim u).map (fun x => 0 - x) else prim u := by
  unfold rdc prim
  split
  · rw [List.map_map]
    refine List.map_congr_left fun x hx => ?_
    show x / - _ = 0 - x / _
    rw [Int.ediv_neg]
    omega
  · rfl
theorem lc_prim_neg {u : List Int} (t : u.getLast? ≠ some 0) (n : u ≠ []) : lc (prim u) < 0 ↔ lc u < 0 := by
  have l := lc_ne t n
  have g := gcdL_pos (u := u) ⟨_, mem_getD l, l⟩
  have e : lc u = ((gcdL u : Nat) : Int) * lc (prim u) := by
    unfold lc
    rw [prim_len]
    exact dv_get (fun x hx => gcdL_dvd hx) _
  rw [e]
  constructor
  · intro h
    exact Int.mul_neg_of_pos_of_neg (by omega) h
  · intro h
    refine Classical.byContradiction fun q => ?_
    have := Int.mul_nonneg (show (0 : Int) ≤ ((gcdL u : Nat) : Int) by omega) (show 0 ≤ lc (prim u) by omega)
    omega
/-- one step of the law's division -/
def lstep (a b : List Int) : List Int := trim (comb (lc b).natAbs a (- (if lc b > 0 then lc a else 0 - lc a)) (sft (a.length - b.length) b))
theorem lstep_red {a b : List Int} (lb : lc b ≠ 0) : lstep a b = if lc b > 0 then red1 a b else dv (-1) (red1 a b) := by
  have get : ∀ (x y : Int) k, (trim (comb x a y (sft (a.length - b.length) b))).getD k 0 = x * a.getD k 0 + y * (sft (a.length - b.length) b).getD k 0 := fun x y k => by rw [trim_get, comb_get]
  by_cases q : lc b > 0
  · rw [if_pos q]
    refine row_ext (trim_last _) (trim_last _) fun k => ?_
    unfold lstep red1
    rw [if_pos q, get, get, Int.natAbs_of_nonneg (by omega)]
  · rw [if_neg q]
    refine row_ext (trim_last _) (dv_last (neg_all _) (trim_last _)) fun k => ?_
    rw [dv_neg]
    unfold lstep red1
    rw [if_neg q, get, get]
    have : ((lc b).natAbs : Int) = - lc b := by omega
    rw [this]
    grind
theorem lstep_len {a b : List Int} (hb : b ≠ []) (tb : b.getLast? ≠ some 0) (h : b.length ≤ a.length) : (lstep a b).length < a.length := by
  have := red1_len hb h
  rw [lstep_red (lc_ne tb hb)]
  split
  · exact this
  · rw [show (dv (-1) (red1 a b)).length = (red1 a b).length from List.length_map ..]
    exact this
theorem lstep_n1 {a b : List Int} (hb : b ≠ []) (tb : b.getLast? ≠ some 0) {x y : Nat} (hf : n1 a < 2 ^ x) (hg : n1 b < 2 ^ y) : n1 (lstep a b) < 2 ^ (x + (y + 1)) := by
  have := red1_n1 hf hg
  rw [lstep_red (lc_ne tb hb)]
  split
  · exact this
  · exact Nat.lt_of_le_of_lt (n1_dv _) this
theorem lstep_pI {a b : List Int} (hb : b ≠ []) (tb : b.getLast? ≠ some 0) : ∃ e : Int, (e = 1 ∨ e = -1) ∧ ∀ x, (lc b : Rat) * pI a x = (lc a : Rat) * (x ^ (a.length - b.length) * pI b x) + (e : Rat) * pI (lstep a b) x := by
  rw [lstep_red (lc_ne tb hb)]
  by_cases q : lc b > 0
  · refine ⟨1, .inl rfl, fun x => ?_⟩
    rw [if_pos q, red1_pI, rc1]
    grind
  · refine ⟨-1, .inr rfl, fun x => ?_⟩
    have := dv_pI (neg_all (red1 a b)) x
    rw [red1_pI] at this
    rw [if_neg q]
    grind
/-- what the law's division leaves -/
structure Lft (a b r : List Int) (k A B : Nat) : Prop where
  t : r.getLast? ≠ some 0
  n : n1 r < 2 ^ (A + k * (B + 1))
  l : k + r.length ≤ a.length
  k : k = 0 ∨ k + b.length ≤ a.length + 1
  e : ∃ (c d : Int) (Q : List Int), c ≠ 0 ∧ d ≠ 0 ∧ ∀ x, (c : Rat) * pI a x = pI Q x * pI b x + (d : Rat) * pI r x
theorem Lft.zero {a b : List Int} {A B : Nat} (t : a.getLast? ≠ some 0) (h : n1 a < 2 ^ A) : Lft a b a 0 A B := ⟨t, by rw [Nat.zero_mul]; exact h, by omega, .inl rfl, 1, 1, [], by decide, by decide, fun x => by rw [pI_nil]; grind⟩
theorem xpow_pI (s : Nat) (b : List Int) (x : Rat) : x ^ s * pI b x = pI (sft s [1]) x * pI b x := by rw [sft_pI, pI_one, rc1]; grind
theorem Lft.step {a b r : List Int} {k A B : Nat} (h : Lft a b r k A B) (hb : b ≠ []) (tb : b.getLast? ≠ some 0) (nb : n1 b < 2 ^ B) (hl : b.length ≤ r.length) : Lft a b (prim (lstep r b)) (k + 1) A B := by
  obtain ⟨c, d, Q, c0, d0, e⟩ := h.e
  obtain ⟨s, hs, e2⟩ := lstep_pI (a := r) hb tb
  obtain ⟨g, g0, e3⟩ := prim_pI0 (lstep r b)
  have ll := lstep_len hb tb hl
  have hl2 := h.l
  have l0 := lc_ne tb hb
  refine ⟨prim_trim (trim_last _), ?_, by rw [prim_len]; omega, .inr (by omega), c * lc b, d * s * g, comb (lc b) Q (d * lc r) (sft (r.length - b.length) [1]), Int.mul_ne_zero c0 l0, Int.mul_ne_zero (Int.mul_ne_zero d0 (by omega)) (by omega), fun x => ?_⟩
  · have := lstep_n1 hb tb h.n nb
    rw [show A + (k + 1) * (B + 1) = A + k * (B + 1) + (B + 1) by rw [Nat.add_mul]; omega]
    exact Nat.lt_of_le_of_lt (prim_n1 _) this
  · have i1 := e x
    have i2 := e2 x
    have i3 := e3 x
    rw [i3, xpow_pI] at i2
    rw [pI_comb, Rat.intCast_mul, Rat.intCast_mul, Rat.intCast_mul, Rat.intCast_mul]
    have h1 : (c : Rat) * (lc b : Rat) * pI a x = (lc b : Rat) * ((c : Rat) * pI a x) := by grind
    rw [h1, i1]
    have h2 : (lc b : Rat) * (pI Q x * pI b x + (d : Rat) * pI r x) = (lc b : Rat) * (pI Q x * pI b x) + (d : Rat) * ((lc b : Rat) * pI r x) := by grind
    rw [h2, i2]
    grind
/-- Euclid's way keeps the sizes -/
structure Eu (f g a b : List Int) (L h : Nat) : Prop where
  C : Cm f g a b
  ta : a.getLast? ≠ some 0
  tb : b.getLast? ≠ some 0
  an : a ≠ []
  la : a.length ≤ L
  lb : b.length ≤ L
  sz : bt h L ≤ 13400
  ab : (b.length < a.length ∧ n1 a < 2 ^ bt h (L - a.length) ∧ n1 b < 2 ^ bt h (L - a.length + 1)) ∨ (a.length ≤ b.length ∧ ∃ h0, n1 a < 2 ^ h0 ∧ n1 b < 2 ^ h0 ∧ h0 ≤ h ∧ (a.length = b.length → 2 * h0 + 1 ≤ h))
theorem Eu.step {f g a b : List Int} {L h : Nat} (E : Eu f g a b L h) (hb : b ≠ []) : ∃ A B, n1 a < 2 ^ A ∧ n1 b < 2 ^ B ∧ A + (a.length + 1 - b.length) * (B + 1) ≤ 13400 ∧ ∀ r k, Lft a b r k A B → r.length < b.length → Eu f g b r L h := by
  have la := E.la
  have lb := E.lb
  have bl := List.length_pos_iff.mpr hb
  have sz := E.sz
  have b0 : bt h 0 = h := rfl
  have bL : bt h 0 ≤ bt h L := bt_mono h (Nat.zero_le _)
  rcases E.ab with ⟨q, na, nb⟩ | ⟨q, h0, na, nb, hh, h2⟩
  · have g := bt_gap h (L - a.length) (a.length - b.length - 1)
    have i1 : L - a.length + 1 + (a.length - b.length - 1) + 1 = L - b.length + 1 := by omega
    rw [i1] at g
    have i2 : a.length - b.length - 1 + 2 = a.length + 1 - b.length := by omega
    rw [i2] at g
    have g2 : bt h (L - b.length + 1) ≤ bt h L := bt_mono h (by omega)
    refine ⟨_, _, na, nb, by omega, fun r k F hr => ?_⟩
    obtain ⟨c, d, Q, c0, d0, e⟩ := F.e
    have fk := F.k
    refine ⟨E.C.step c0 d0 e, E.tb, F.t, hb, lb, by omega, sz, .inl ⟨hr, pow_up nb (bt_mono h (by omega)), pow_up F.n (Nat.le_trans ?_ g)⟩⟩
    have : k ≤ a.length + 1 - b.length := by omega
    have := Nat.mul_le_mul_right (bt h (L - a.length + 1) + 1) this
    omega
  · have kb : ∀ k : Nat, (k = 0 ∨ k + b.length ≤ a.length + 1) → h0 + k * (h0 + 1) ≤ h := fun k hk => by
      by_cases z : k = 0
      · rw [z, Nat.zero_mul]
        exact hh
      · have k1 : k = 1 := by omega
        have := h2 (by omega)
        rw [k1]
        omega
    refine ⟨h0, h0, na, nb, ?_, fun r k F hr => ?_⟩
    · have := kb (a.length + 1 - b.length) (by omega)
      omega
    · obtain ⟨c, d, Q, c0, d0, e⟩ := F.e
      refine ⟨E.C.step c0 d0 e, E.tb, F.t, hb, lb, by omega, sz, .inl ⟨hr, pow_up nb ?_, pow_up F.n ?_⟩⟩
      · have : bt h 0 ≤ bt h (L - b.length) := bt_mono h (Nat.zero_le _)
        omega
      · have := kb k F.k
        have : bt h 0 ≤ bt h (L - b.length + 1) := bt_mono h (Nat.zero_le _)
        omega
theorem Eu.start {f g : List Int} (tf : f.getLast? ≠ some 0) (tg : g.getLast? ≠ some 0) (nf : f ≠ []) (bf : n1 f < 2 ^ 93) (bg : n1 g < 2 ^ 93) (lf : f.length ≤ 5) (lg : g.length ≤ 6) : ∃ L h, L ≤ 6 ∧ Eu f g f g L h := by
  rcases Nat.lt_trichotomy f.length g.length with q | q | q
  · exact ⟨6, 93, by decide, .refl f g, tf, tg, nf, by omega, lg, by decide, .inr ⟨by omega, 93, bf, bg, by decide, fun z => by omega⟩⟩
  · exact ⟨5, 187, by decide, .refl f g, tf, tg, nf, lf, by omega, by decide, .inr ⟨by omega, 93, bf, bg, by decide, fun z => by decide⟩⟩
  · refine ⟨5, 93, by decide, .refl f g, tf, tg, nf, lf, by omega, by decide, .inl ⟨q, pow_up bf ?_, pow_up bg ?_⟩⟩
    · exact (bt_mono 93 (Nat.zero_le _) : bt 93 0 ≤ _)
    · exact (bt_mono 93 (Nat.zero_le _) : bt 93 0 ≤ _)
end Gx
namespace Gx
open PySem DL Mx Px
end Gx
namespace Gx
open PySem DL Mx Px
/-- another machine of the same polynomials -/
structure Same (m n : List Ds) (z : Rat) : Prop where
  z0 : 0 < z
  h : ∀ x, hM (mq n) x 0 = z * hM (mq m) x 0
  f : ∀ x, fM (mq n) x 0 = z * fM (mq m) x 0
theorem Sml.same {m n : List Ds} {U V : List Int} {c z : Rat} (S : Sml m U V c) (h : Same m n z) : Sml n U V (c / z) := by
  have z0 := h.z0
  have zn : z ≠ 0 := by grind
  refine ⟨by rw [Rat.div_def]; exact Rat.mul_pos S.c0 (Rat.inv_pos.mpr z0), fun x => ?_, fun x => ?_, S.nu, S.nv, S.lu, S.lv, S.tu, S.tv, S.un, S.vn⟩
  · rw [S.hv, h.h]
    grind
  · rw [S.fv, h.f]
    grind
end Gx
/-! A list of one's own that is kept or made anew, looked at as data. -/
namespace DL
open PySem PySem.Spec PyProof.Rows L2
section
variable {K : PySem.W.Frag} {B : Bs} {G : List Hp} {L : List Addr} {H H' : Hp} {σ : L2.St} {Γ : List Sl}
variable {te ta tb : TE} {tt : TT} {P : PD}
/-- a test may look at a list of one's own -/
theorem et_peek {i : Nat} {l : Addr} {L' : List Addr} {xs : List PyData} {k : Bool → Prop} (hi : Γ[i]? = some (.own l xs)) (hn : l ∉ L') (h : EvT K B G L' (Γ.set i (.d (.list xs))) tt k) : EvT K B G (l :: L') Γ tt k := fun σ H Q E q =>
  h σ H Q (E.freeze hn hi) fun b H1 g1 hk => q b H1 (Go.step E g1.rl g1.env.ws) hk
/-- a step with what is known behind it -/
theorem st_mid {t u : TS} (I : List Addr → List Sl → Prop) (h1 : StP K B G L Γ t { P with nx := I }) (h2 : ∀ L' Γ', I L' Γ' → StP K B G L' Γ' u P) : StP K B G L Γ (tSeq t u) P := fun σ H D E M =>
  h1 σ H { D with nx := u D } E ⟨fun L' Γ' σ' H' hs E' => h2 L' Γ' hs σ' H' D E' M, M.rt, M.bk, M.ct⟩
end
end DL
/-! Products of small factors, their derivatives, their common divisors. -/
namespace Gx
open PySem DL Mx Px
/-! without a common root -/
def Cop (a b : List Int) : Prop := ∃ (U V : List Int) (R : Int), R ≠ 0 ∧ ∀ x, pI U x * pI a x + pI V x * pI b x = (R : Rat)
theorem Cop.symm {a b : List Int} (h : Cop a b) : Cop b a := by
  obtain ⟨U, V, R, r0, e⟩ := h
  exact ⟨V, U, R, r0, fun x => by rw [← e x]; grind⟩
theorem Cop.mul {a b c d : List Int} (h : Cop a b) (k : Cop a c) (e : ∀ x, pI d x = pI b x * pI c x) : Cop a d := by
  obtain ⟨U, V, R, r0, e1⟩ := h
  obtain ⟨U', V', R', r0', e2⟩ := k
  refine ⟨comb 1 (mulL U (comb 1 (mulL U' a) 1 (mulL V' c))) 1 (mulL V (mulL b U')), mulL V V', R * R', Int.mul_ne_zero r0 r0', fun x => ?_⟩
  have i1 := e1 x
  have i2 := e2 x
  have z1 : ((1 : Int) : Rat) = 1 := rfl
  rw [pI_comb, mulL_pI, pI_comb, mulL_pI, mulL_pI, mulL_pI, mulL_pI, mulL_pI, e, z1, Rat.intCast_mul, ← i1, ← i2]
  grind
theorem Cop.add {a b c k : List Int} (h : Cop a b) (e : ∀ x, pI c x = pI b x + pI a x * pI k x) : Cop a c := by
  obtain ⟨U, V, R, r0, e1⟩ := h
  refine ⟨comb 1 U (-1) (mulL V k), V, R, r0, fun x => ?_⟩
  have i1 := e1 x
  have z1 : ((1 : Int) : Rat) = 1 := rfl
  have z2 : ((-1 : Int) : Rat) = -1 := rfl
  rw [pI_comb, mulL_pI, e, z1, z2]
  grind
theorem Cop.const {a k : List Int} {c : Int} (c0 : c ≠ 0) (e : ∀ x, pI k x = (c : Rat)) : Cop a k := ⟨[], [1], c, c0, fun x => by
  have z1 : ((1 : Int) : Rat) = 1 := rfl
  rw [pI_nil, pI_one, e, z1]
  grind⟩
theorem Cop.ne {a b : List Int} (h : Cop a b) {x : Rat} (z : pI a x = 0) : pI b x ≠ 0 := fun w => by
  obtain ⟨U, V, R, r0, e⟩ := h
  have := e x
  rw [z, w] at this
  have : (R : Rat) = 0 := by grind
  exact ratInt_ne r0 this
theorem Cop.congr {a b c d : List Int} (h : Cop a b) (e1 : ∀ x, pI c x = pI a x) (e2 : ∀ x, pI d x = pI b x) : Cop c d := by
  obtain ⟨U, V, R, r0, e⟩ := h
  exact ⟨U, V, R, r0, fun x => by rw [e1, e2, e]⟩
/-! the derivative -/
def dI : List Int → Rat → Rat
  | [], _ => 0
  | _ :: u, x => pI u x + x * dI u x
def derF : Nat → List Int → List Int
  | _, [] => []
  | k, a :: u => ((k : Nat) : Int) * a :: derF (k + 1) u
def der (u : List Int) : List Int := (derF 0 u).drop 1
theorem derF_len : ∀ (k : Nat) (u : List Int), (derF k u).length = u.length
  | _, [] => rfl
  | k, _ :: u => congrArg (· + 1) (derF_len (k + 1) u)
theorem derF_get : ∀ (k : Nat) (u : List Int) (i : Nat), (derF k u).getD i 0 = (((k + i : Nat) : Nat) : Int) * u.getD i 0
  | k, [], i => by
    show ([] : List Int).getD i 0 = _ * ([] : List Int).getD i 0
    rw [getD_out (u := []) (Nat.zero_le _), Int.mul_zero]
  | k, a :: u, 0 => rfl
  | k, a :: u, i + 1 => by
    show (derF (k + 1) u).getD i 0 = _ * u.getD i 0
    rw [derF_get (k + 1) u i, show k + 1 + i = k + (i + 1) by omega]
theorem derF_pI : ∀ (k : Nat) (u : List Int) (x : Rat), pI (derF k u) x = ((((k : Nat) : Int)) : Rat) * pI u x + x * dI u x
  | k, [], x => by
    show (0 : Rat) = _ * (0 : Rat) + x * 0
    grind
  | k, a :: u, x => by
    have ih := derF_pI (k + 1) u x
    show (((k : Int) * a : Int) : Rat) + x * pI (derF (k + 1) u) x = ((k : Int) : Rat) * ((a : Rat) + x * pI u x) + x * (pI u x + x * dI u x)
    rw [ih, Rat.intCast_mul, show ((k + 1 : Nat) : Int) = (k : Int) + 1 by omega, Rat.intCast_add]
    have z1 : ((1 : Int) : Rat) = 1 := rfl
    rw [z1]
    grind
theorem der_pI (u : List Int) (x : Rat) : pI (der u) x = dI u x := by
  cases u with
  | nil => rfl
  | cons a v =>
    show pI (derF 1 v) x = pI v x + x * dI v x
    rw [derF_pI]
    have z1 : (((1 : Nat) : Int) : Rat) = 1 := rfl
    rw [z1]
    grind
theorem der_get (u : List Int) (k : Nat) : (der u).getD k 0 = ((k + 1 : Nat) : Int) * u.getD (k + 1) 0 := by
  unfold der
  have := derF_get 0 u (k + 1)
  rw [Nat.zero_add] at this
  rw [← this, List.getD_eq_getElem?_getD, List.getElem?_drop, Nat.add_comm 1 k, ← List.getD_eq_getElem?_getD]
theorem der_len (u : List Int) : (der u).length = u.length - 1 := by
  unfold der
  rw [List.length_drop, derF_len]
theorem derF_n1 : ∀ (k : Nat) (u : List Int), n1 (derF k u) ≤ (k + u.length) * n1 u
  | k, [] => Nat.zero_le _
  | k, a :: u => by
    have ih := derF_n1 (k + 1) u
    show (((k : Int) * a).natAbs + n1 (derF (k + 1) u)) ≤ (k + (u.length + 1)) * (a.natAbs + n1 u)
    rw [Int.natAbs_mul, Int.natAbs_natCast, Nat.mul_add]
    have h1 : k * a.natAbs ≤ (k + (u.length + 1)) * a.natAbs := Nat.mul_le_mul_right _ (by omega)
    have h2 : k + 1 + u.length = k + (u.length + 1) := by omega
    rw [h2] at ih
    omega
theorem n1_drop1 (u : List Int) : n1 (u.drop 1) ≤ n1 u := by
  cases u with
  | nil => exact Nat.le_refl _
  | cons a v =>
    show n1 v ≤ a.natAbs + n1 v
    omega
theorem der_n1 (u : List Int) : n1 (der u) ≤ u.length * n1 u := by
  have := derF_n1 0 u
  rw [Nat.zero_add] at this
  exact Nat.le_trans (n1_drop1 _) this
/-! good rows: the numbers without a common divisor, the lead above 0 -/
structure Gd (u : List Int) : Prop where
  pr : gcdL u = 1
  ld : 0 < lc u
  t : u.getLast? ≠ some 0
theorem Gd.n {u : List Int} (h : Gd u) : u ≠ [] := ne_lc (by have := h.ld; omega)
def mulT (u v : List Int) : List Int := trim (mulL u v)
theorem mulT_pI (u v : List Int) (x : Rat) : pI (mulT u v) x = pI u x * pI v x := by
  unfold mulT
  rw [pI_trim, mulL_pI]
theorem mulT_n1 (u v : List Int) : n1 (mulT u v) ≤ n1 u * n1 v := Nat.le_trans (n1_trim _) (mulL_n1 u v)
theorem mulT_top {u v : List Int} (hu : lc u ≠ 0) (hv : lc v ≠ 0) : (mulT u v).length + 1 = u.length + v.length ∧ lc (mulT u v) = lc u * lc v := by
  have ul := List.length_pos_iff.mpr (ne_lc hu)
  have vl := List.length_pos_iff.mpr (ne_lc hv)
  have tp := mulL_top u v ul vl
  have nz : (mulT u v).getD (u.length - 1 + (v.length - 1)) 0 = lc u * lc v := by
    unfold mulT
    rw [trim_get, tp]
    rfl
  have n0 := Int.mul_ne_zero hu hv
  have h1 : u.length - 1 + (v.length - 1) < (mulT u v).length := by
    rcases Nat.lt_or_ge (u.length - 1 + (v.length - 1)) (mulT u v).length with w | w
    · exact w
    · rw [getD_out w] at nz
      exact (n0 nz.symm).elim
  have h2 : (mulT u v).length ≤ u.length + v.length - 1 := mulL_len u v
  have h3 : (mulT u v).length + 1 = u.length + v.length := by omega
  refine ⟨h3, ?_⟩
  unfold lc at nz ⊢
  rw [show (mulT u v).length - 1 = u.length - 1 + (v.length - 1) by omega]
  exact nz
theorem Gd.mul {u v : List Int} (h : Gd u) (k : Gd v) : Gd (mulT u v) := by
  have l1 := h.ld
  have l2 := k.ld
  obtain ⟨_, e⟩ := mulT_top (u := u) (v := v) (by omega) (by omega)
  have lp : 0 < lc (mulT u v) := by rw [e]; exact Int.mul_pos l1 l2
  have tt : (mulT u v).getLast? ≠ some 0 := trim_last _
  have nn : mulT u v ≠ [] := ne_lc (by omega)
  have nz : ∃ x ∈ mulT u v, x ≠ 0 := ⟨_, mem_getD (lc_ne tt nn), lc_ne tt nn⟩
  refine ⟨?_, lp, tt⟩
  have g0 := gcdL_pos nz
  obtain ⟨g, hg⟩ : ∃ g : Int, g = ((gcdL (mulT u v) : Nat) : Int) := ⟨_, rfl⟩
  have gn : g ≠ 0 := by omega
  obtain ⟨Q, eQ⟩ := prim_div _ g (prim (mulT u v)) u v (Nat.le_refl _) gn h.pr fun x => by
    have := prim_pI (mulT u v) nz x
    rw [mulT_pI] at this
    rw [this, hg]
    rfl
  have dv : ∀ k, g ∣ v.getD k 0 := fun k => by
    have : ∀ x, pI v x = pI (comb g Q 0 []) x := pI_cancel (G := u) (by omega) fun x => by
      have h1 := prim_pI (mulT u v) nz x
      rw [mulT_pI] at h1
      have h2 : ((gcdL (mulT u v) : Nat) : Rat) = (g : Rat) := by rw [hg]; rfl
      rw [h2] at h1
      rw [h1, eQ, pI_comb, pI_nil]
      grind
    rw [pI_coef this k, comb_get, getD_out (u := []) (Nat.zero_le _), Int.mul_zero, Int.add_zero]
    exact Int.dvd_mul_right _ _
  have := all_dvd dv
  rw [k.pr, hg, Int.natAbs_natCast] at this
  exact Nat.dvd_one.mp this
theorem gd_one : Gd [1] := ⟨by decide, by decide, by decide⟩
/-! a prime's squares -/
theorem sqp (p e : Int) (p1 : 1 < p) (hp : ∀ z, p ∣ z * z → p ∣ z) (he : ∀ z, p ∣ e * (z * z) → p ∣ z) : ∀ (n : Nat) (s t : Int), t.natAbs ≤ n → s * s = p * e * (t * t) → t = 0
  | 0, s, t, h, _ => by omega
  | n + 1, s, t, h, q => by
    by_cases t0 : t = 0
    · exact t0
    obtain ⟨a, rfl⟩ := hp s ⟨e * (t * t), by rw [q, Int.mul_assoc]⟩
    have h1 : p * (a * a) = e * (t * t) := by
      have : p * (p * (a * a)) = p * (e * (t * t)) := by
        have e1 : p * (p * (a * a)) = p * a * (p * a) := by grind
        rw [e1, q, Int.mul_assoc]
      exact Int.eq_of_mul_eq_mul_left (by omega) this
    obtain ⟨b, rfl⟩ := he t ⟨a * a, h1.symm⟩
    have h2 : a * a = p * e * (b * b) := by
      have : p * (a * a) = p * (p * e * (b * b)) := by
        rw [h1]
        grind
      exact Int.eq_of_mul_eq_mul_left (by omega) this
    have hb : b.natAbs < (p * b).natAbs := by
      rw [Int.natAbs_mul]
      have b0 : b ≠ 0 := fun z => t0 (by rw [z, Int.mul_zero])
      have : 2 * b.natAbs ≤ p.natAbs * b.natAbs := Nat.mul_le_mul_right _ (by omega)
      omega
    rw [sqp p e p1 hp he n a b (by omega) h2, Int.mul_zero]
theorem dv2 (z : Int) (h : 2 ∣ z * z) : 2 ∣ z := by
  have h0 := Int.emod_eq_zero_of_dvd h
  rw [Int.mul_emod] at h0
  have : z % 2 = 0 ∨ z % 2 = 1 := by omega
  rcases this with w | w <;> rw [w] at h0
  · exact Int.dvd_of_emod_eq_zero w
  · exact absurd h0 (by decide)
theorem dv3 (z : Int) (h : 3 ∣ z * z) : 3 ∣ z := by
  have h0 := Int.emod_eq_zero_of_dvd h
  rw [Int.mul_emod] at h0
  have : z % 3 = 0 ∨ z % 3 = 1 ∨ z % 3 = 2 := by omega
  rcases this with w | w | w <;> rw [w] at h0
  · exact Int.dvd_of_emod_eq_zero w
  · exact absurd h0 (by decide)
  · exact absurd h0 (by decide)
theorem dv5 (z : Int) (h : 5 ∣ z * z) : 5 ∣ z := by
  have h0 := Int.emod_eq_zero_of_dvd h
  rw [Int.mul_emod] at h0
  have : z % 5 = 0 ∨ z % 5 = 1 ∨ z % 5 = 2 ∨ z % 5 = 3 ∨ z % 5 = 4 := by omega
  rcases this with w | w | w | w | w <;> rw [w] at h0
  · exact Int.dvd_of_emod_eq_zero w
  all_goals exact absurd h0 (by decide)
theorem dv7 (z : Int) (h : 7 ∣ z * z) : 7 ∣ z := by
  have h0 := Int.emod_eq_zero_of_dvd h
  rw [Int.mul_emod] at h0
  have : z % 7 = 0 ∨ z % 7 = 1 ∨ z % 7 = 2 ∨ z % 7 = 3 ∨ z % 7 = 4 ∨ z % 7 = 5 ∨ z % 7 = 6 := by omega
  rcases this with w | w | w | w | w | w | w <;> rw [w] at h0
  · exact Int.dvd_of_emod_eq_zero w
  all_goals exact absurd h0 (by decide)
theorem dv23 (z : Int) (h : 2 ∣ 3 * (z * z)) : 2 ∣ z := dv2 z (by omega)
theorem sq2 {s t : Int} (h : s * s = 2 * (t * t)) : t = 0 := sqp 2 1 (by decide) dv2 (fun z h => dv2 z (by omega)) _ s t (Nat.le_refl _) (by omega)
theorem sq3 {s t : Int} (h : s * s = 3 * (t * t)) : t = 0 := sqp 3 1 (by decide) dv3 (fun z h => dv3 z (by omega)) _ s t (Nat.le_refl _) (by omega)
theorem sq5 {s t : Int} (h : s * s = 5 * (t * t)) : t = 0 := sqp 5 1 (by decide) dv5 (fun z h => dv5 z (by omega)) _ s t (Nat.le_refl _) (by omega)
theorem sq6 {s t : Int} (h : s * s = 6 * (t * t)) : t = 0 := sqp 2 3 (by decide) dv2 dv23 _ s t (Nat.le_refl _) (by omega)
theorem sq7 {s t : Int} (h : s * s = 7 * (t * t)) : t = 0 := sqp 7 1 (by decide) dv7 (fun z h => dv7 z (by omega)) _ s t (Nat.le_refl _) (by omega)
theorem sq_pos {m n d : Int} (d0 : 0 < d) (h : m * m + d * (n * n) = 0) : m = 0 := by
  by_cases z : m = 0
  · exact z
  · exfalso
    have h1 : 0 < m * m := by
      rcases Int.lt_trichotomy m 0 with q | q | q
      · exact Int.mul_pos_of_neg_of_neg q q
      · exact (z q).elim
      · exact Int.mul_pos q q
    have h2 : 0 ≤ n * n := by
      rcases Int.lt_trichotomy n 0 with q | q | q
      · exact Int.le_of_lt (Int.mul_pos_of_neg_of_neg q q)
      · rw [q]; decide
      · exact Int.le_of_lt (Int.mul_pos q q)
    have := Int.mul_nonneg (Int.le_of_lt d0) h2
    omega
/-! the factors -/
def QL : List (List Int) := [[-2, 0, 1], [-3, 0, 1], [-5, 0, 1], [-6, 0, 1], [-7, 0, 1], [2, -4, 1], [1, -3, 1], [-1, 0, 2], [-3, 0, 4], [-5, 0, 4], [-3, 0, 2], [-7, 0, 4], [1, 0, 2], [1, 0, 3], [1, 0, 5], [1, 0, 6], [1, 0, 7]]
def Fac (u : List Int) : Prop := (∃ x : Fr, FOk x ∧ x.1.natAbs < 2 ^ 6 ∧ x.2 < 2 ^ 6 ∧ u = [0 - x.1, x.2]) ∨ u ∈ QL
theorem ql_form : ∀ q ∈ QL, ∃ a b c, q = [a, b, c] := by
  intro q h
  simp only [QL, List.mem_cons, List.not_mem_nil, or_false] at h
  rcases h with rfl | rfl | rfl | rfl | rfl | rfl | rfl | rfl | rfl | rfl | rfl | rfl | rfl | rfl | rfl | rfl | rfl <;> exact ⟨_, _, _, rfl⟩
theorem ql_irr : ∀ a b c : Int, [a, b, c] ∈ QL → ∀ n m : Int, m ≠ 0 → a * (m * m) + b * (n * m) + c * (n * n) ≠ 0 := by
  intro a b c h n m m0 e
  simp only [QL, List.mem_cons, List.not_mem_nil, or_false, List.cons.injEq, and_true] at h
  rcases h with ⟨rfl, rfl, rfl⟩ | ⟨rfl, rfl, rfl⟩ | ⟨rfl, rfl, rfl⟩ | ⟨rfl, rfl, rfl⟩ | ⟨rfl, rfl, rfl⟩ | ⟨rfl, rfl, rfl⟩ | ⟨rfl, rfl, rfl⟩ | ⟨rfl, rfl, rfl⟩ | ⟨rfl, rfl, rfl⟩ | ⟨rfl, rfl, rfl⟩ | ⟨rfl, rfl, rfl⟩ | ⟨rfl, rfl, rfl⟩ | ⟨rfl, rfl, rfl⟩ | ⟨rfl, rfl, rfl⟩ | ⟨rfl, rfl, rfl⟩ | ⟨rfl, rfl, rfl⟩ | ⟨rfl, rfl, rfl⟩
  · exact m0 (sq2 (s := n) (by omega))
  · exact m0 (sq3 (s := n) (by omega))
  · exact m0 (sq5 (s := n) (by omega))
  · exact m0 (sq6 (s := n) (by omega))
  · exact m0 (sq7 (s := n) (by omega))
  · exact m0 (sq2 (s := n - 2 * m) (by grind))
  · exact m0 (sq5 (s := 2 * n - 3 * m) (by grind))
  · exact m0 (sq2 (s := 2 * n) (by grind))
  · exact m0 (sq3 (s := 2 * n) (by grind))
  · exact m0 (sq5 (s := 2 * n) (by grind))
  · exact m0 (sq6 (s := 2 * n) (by grind))
  · exact m0 (sq7 (s := 2 * n) (by grind))
  · exact m0 (sq_pos (d := 2) (n := n) (by decide) (by omega))
  · exact m0 (sq_pos (d := 3) (n := n) (by decide) (by omega))
  · exact m0 (sq_pos (d := 5) (n := n) (by decide) (by omega))
  · exact m0 (sq_pos (d := 6) (n := n) (by decide) (by omega))
  · exact m0 (sq_pos (d := 7) (n := n) (by decide) (by omega))
def rs2 (p q : List Int) : Int :=
  let a := p.getD 2 0 * q.getD 1 0 - q.getD 2 0 * p.getD 1 0
  let b := p.getD 2 0 * q.getD 0 0 - q.getD 2 0 * p.getD 0 0
  p.getD 0 0 * (a * a) - p.getD 1 0 * (a * b) + p.getD 2 0 * (b * b)
theorem ql_rs : ∀ p ∈ QL, ∀ q ∈ QL, p ≠ q → rs2 p q ≠ 0 := by decide +kernel
theorem ql_disc : ∀ q ∈ QL, 4 * q.getD 0 0 * q.getD 2 0 - q.getD 1 0 * q.getD 1 0 ≠ 0 := by decide +kernel
theorem ql_gd : ∀ q ∈ QL, gcdL q = 1 ∧ 0 < lc q ∧ q.getLast? ≠ some 0 ∧ n1 q < 2 ^ 7 ∧ q.length = 3 := by decide +kernel
theorem pI3 (a b c : Int) (x : Rat) : pI [a, b, c] x = (a : Rat) + x * ((b : Rat) + x * (c : Rat)) := by
  rw [pI_cons, pI_cons, pI_one]
theorem pI2 (a b : Int) (x : Rat) : pI [a, b] x = (a : Rat) + x * (b : Rat) := by rw [pI_cons, pI_one]
theorem Fac.gd {u : List Int} (h : Fac u) : Gd u ∧ n1 u < 2 ^ 7 ∧ 2 ≤ u.length ∧ u.length ≤ 3 := by
  rcases h with ⟨x, f, b1, b2, rfl⟩ | h
  · have x0 := f.1
    refine ⟨⟨?_, x0, ?_⟩, ?_, by show 2 ≤ 2; decide, by show 2 ≤ 3; decide⟩
    · have := f.2
      show Nat.gcd (0 - x.1).natAbs (Nat.gcd x.2.natAbs 0) = 1
      rw [Nat.gcd_zero_right, show (0 - x.1).natAbs = x.1.natAbs by omega]
      exact this
    · intro z
      have : x.2 = 0 := by simpa using z
      omega
    · show (0 - x.1).natAbs + (x.2.natAbs + 0) < 2 ^ 7
      have : (2 : Nat) ^ 7 = 128 := rfl
      have : (2 : Nat) ^ 6 = 64 := rfl
      have : (2 : Int) ^ 6 = 64 := rfl
      omega
  · obtain ⟨a, b, c, d, e⟩ := ql_gd u h
    exact ⟨⟨a, b, c⟩, d, by omega, by omega⟩
theorem Fac.der {u : List Int} (h : Fac u) : Cop u (der u) := by
  rcases h with ⟨x, f, b1, b2, rfl⟩ | h
  · have x0 := f.1
    refine Cop.const (c := x.2) (by omega) fun t => ?_
    show pI [((1 : Nat) : Int) * x.2] t = _
    rw [pI_one]
    congr 1
    omega
  · have d := ql_disc u h
    obtain ⟨a, b, c, rfl⟩ := ql_form u h
    refine ⟨[4 * c], [0 - b, 0 - 2 * c], 4 * a * c - b * b, d, fun x => ?_⟩
    show pI [4 * c] x * pI [a, b, c] x + pI [0 - b, 0 - 2 * c] x * pI [((1 : Nat) : Int) * b, ((2 : Nat) : Int) * c] x = _
    rw [pI2, pI2, pI_one, pI3]
    have z0 : ((0 : Int) : Rat) = 0 := rfl
    have z1 : (((1 : Nat) : Int) : Rat) = 1 := rfl
    have z2 : (((2 : Nat) : Int) : Rat) = 2 := rfl
    have z3 : ((2 : Int) : Rat) = 2 := rfl
    have z4 : ((4 : Int) : Rat) = 4 := rfl
    simp only [Rat.intCast_add, Rat.intCast_sub, Rat.intCast_mul, z0, z1, z2, z3, z4]
    grind
end Gx
namespace Gx
open PySem DL Mx Px
def fV : List (List Int × Nat) → Rat → Rat
  | [], _ => 1
  | p :: fs, x => pI p.1 x ^ p.2 * fV fs x
theorem fV_snoc : ∀ (fs : List (List Int × Nat)) (p : List Int × Nat) (x : Rat), fV (fs ++ [p]) x = fV fs x * pI p.1 x ^ p.2
  | [], p, x => by
    show pI p.1 x ^ p.2 * 1 = 1 * _
    grind
  | q :: fs, p, x => by
    show pI q.1 x ^ q.2 * fV (fs ++ [p]) x = pI q.1 x ^ q.2 * fV fs x * _
    rw [fV_snoc fs p x]
    grind
def once (fs : List (List Int × Nat)) : List (List Int × Nat) := fs.map fun p => (p.1, 1)
def pw (f : List Int) : Nat → List Int
  | 0 => [1]
  | m + 1 => mulT (pw f m) f
theorem pw_pI (f : List Int) : ∀ (m : Nat) (x : Rat), pI (pw f m) x = pI f x ^ m
  | 0, x => by
    show pI [1] x = _
    rw [pI_one, Rat.pow_zero]
    rfl
  | m + 1, x => by
    show pI (mulT (pw f m) f) x = _
    rw [mulT_pI, pw_pI f m x, Rat.pow_succ]
theorem pw_gd {f : List Int} (h : Gd f) : ∀ m, Gd (pw f m)
  | 0 => gd_one
  | m + 1 => (pw_gd h m).mul h
theorem pw_n1 {f : List Int} (h : n1 f ≤ 2 ^ 7) : ∀ m, n1 (pw f m) ≤ 2 ^ (7 * m)
  | 0 => Nat.le_refl 1
  | m + 1 => by
    have := mulT_n1 (pw f m) f
    have h2 := Nat.mul_le_mul (pw_n1 h m) h
    rw [show 7 * (m + 1) = 7 * m + 7 by omega, Nat.pow_add]
    exact Nat.le_trans this h2
theorem pw_len {f : List Int} (h : Gd f) (l : f.length ≤ 3) : ∀ m, (pw f m).length ≤ 2 * m + 1
  | 0 => Nat.le_refl 1
  | m + 1 => by
    have l1 := (pw_gd h m).ld
    have l2 := h.ld
    obtain ⟨e, _⟩ := mulT_top (u := pw f m) (v := f) (by omega) (by omega)
    have := pw_len h l m
    show (mulT (pw f m) f).length ≤ _
    omega
/-- the products of a list of factors: each once, what is left, the whole; the derivative's part -/
structure FT (fs : List (List Int × Nat)) (P Q G F : List Int) : Prop where
  vP : ∀ x, pI P x = fV (once fs) x
  vF : ∀ x, pI F x = fV fs x
  vG : ∀ x, pI F x = pI G x * pI P x
  vQ : ∀ x, dI F x = pI G x * pI Q x
  cp : Cop P Q
  gP : Gd P
  gG : Gd G
  gF : Gd F
  nP : n1 P ≤ 2 ^ (7 * fs.length)
  nQ : n1 Q ≤ fs.length * 2 ^ (7 * fs.length + 4)
  nF : n1 F ≤ 2 ^ (21 * fs.length)
  nG : n1 G ≤ 2 ^ (21 * fs.length)
  lP : P.length ≤ 2 * fs.length + 1
  l1 : fs.length + 1 ≤ P.length
  lQ : Q.length ≤ 2 * fs.length + 1
  lF : F.length ≤ 6 * fs.length + 1
  lG : F.length + 1 = G.length + P.length
  ot : ∀ f, Fac f → (∀ p ∈ fs, p.1 ≠ f) → Cop f P
theorem IsG.uniq {f g G H : List Int} {B C : Nat} (I : IsG f g G B) (J : IsG f g H C) : G = H := by
  rcases Nat.le_total G.length H.length with w | w
  · exact (I.eq J.pr J.ld J.t J.df J.dg w).symm
  · exact J.eq I.pr I.ld I.t I.df I.dg w
theorem cop_one {P Q G : List Int} {B : Nat} (c : Cop P Q) (I : IsG P Q G B) : G = [1] := by
  obtain ⟨U, V, R, r0, e⟩ := c
  obtain ⟨Q1, e1⟩ := I.df
  obtain ⟨Q2, e2⟩ := I.dg
  have lG := I.ld
  have h : ∀ x, pI [R] x = pI G x * pI (comb 1 (mulL U Q1) 1 (mulL V Q2)) x := fun x => by
    have z1 : ((1 : Int) : Rat) = 1 := rfl
    rw [pI_one, ← e x, e1, e2, pI_comb, mulL_pI, mulL_pI, z1]
    grind
  have t : ([R] : List Int).getLast? ≠ some 0 := by
    intro z
    exact r0 (by simpa using z)
  obtain ⟨z, _, zn, _, l, _⟩ := lc_mul t (by simp) (show lc G ≠ 0 by omega) h
  have zl := List.length_pos_iff.mpr zn
  have gl := List.length_pos_iff.mpr (ne_lc (show lc G ≠ 0 by omega))
  have l1 : ([R] : List Int).length = 1 := rfl
  have g1 : G.length = 1 := by omega
  match G, g1 with
  | [c], _ =>
    have pr := I.pr
    have l0 : 0 < c := lG
    have : Nat.gcd c.natAbs 0 = 1 := pr
    rw [Nat.gcd_zero_right] at this
    congr 1
    omega
theorem der_top {F : List Int} (g : Gd F) (l : 2 ≤ F.length) : (der F).getLast? ≠ some 0 ∧ der F ≠ [] := by
  have dl := der_len F
  have n : der F ≠ [] := fun z => by
    rw [z] at dl
    have : ([] : List Int).length = 0 := rfl
    omega
  refine ⟨fun z => ?_, n⟩
  have := (last_getD z).1
  rw [dl, der_get, show F.length - 1 - 1 + 1 = F.length - 1 by omega] at this
  have ld : F.getD (F.length - 1) 0 ≠ 0 := by have := g.ld; unfold lc at this; omega
  exact Int.mul_ne_zero (by omega) ld this
/-- the common divisor of the product and its derivative -/
theorem FT.isg {fs : List (List Int × Nat)} {P Q G F : List Int} (T : FT fs P Q G F) (n0 : 1 ≤ fs.length) (n3 : fs.length ≤ 3) : IsG F (rdc (der F)) G 5600 ∧ n1 F < 2 ^ 70 ∧ n1 (rdc (der F)) < 2 ^ 70 := by
  have l1 := T.l1
  have lF := T.lF
  have lG := T.lG
  have gl := List.length_pos_iff.mpr T.gG.n
  have Pn := T.gP.n
  obtain ⟨dt, dn⟩ := der_top T.gF (by omega)
  obtain ⟨a1, a2, a3, a4, a5, s, s0, sb, sv, _⟩ := rdc_spec dt dn
  have nF : n1 F ≤ 2 ^ 63 := Nat.le_trans T.nF (Nat.pow_le_pow_right (by decide) (by omega))
  have nd : n1 (der F) ≤ 19 * 2 ^ 63 := Nat.le_trans (der_n1 F) (Nat.mul_le_mul (by omega) nF)
  have nd2 : n1 (der F) < 2 ^ 69 := by
    have : (19 : Nat) * 2 ^ 63 < 2 ^ 69 := by decide
    omega
  -- Bezout's number is small
  have nQ : n1 (trim Q) < 2 ^ 27 := by
    have h1 : n1 Q ≤ 3 * 2 ^ 25 := Nat.le_trans T.nQ (Nat.mul_le_mul n3 (Nat.pow_le_pow_right (by decide) (by omega)))
    have h2 : (3 : Nat) * 2 ^ 25 < 2 ^ 27 := by decide
    have := n1_trim Q
    omega
  have nP : n1 P < 2 ^ 27 := by
    have h1 : n1 P ≤ 2 ^ 21 := Nat.le_trans T.nP (Nat.pow_le_pow_right (by decide) (by omega))
    have h2 : (2 : Nat) ^ 21 < 2 ^ 27 := by decide
    omega
  have lQ := T.lQ
  have lP := T.lP
  have tl := trim_len Q
  obtain ⟨H, I⟩ := Gx.isg T.gP.t (trim_last Q) (h := 27) (L := 7) nP nQ (by omega) (by omega) (.inl Pn)
  have cp : Cop P (trim Q) := T.cp.congr (fun x => rfl) (fun x => pI_trim Q x)
  have H1 := cop_one cp I
  obtain ⟨U, V, R, r0, rb, e⟩ := I.bz
  have b5 : bt (2 * 27 + 1) (7 - 1) = 5543 := by decide
  rw [b5] at rb
  have z1 : ((1 : Int) : Rat) = 1 := rfl
  have e2 : ∀ x, pI U x * pI P x + pI V x * pI Q x = (R : Rat) := fun x => by
    have := e x
    rw [H1, pI_one, pI_trim, z1] at this
    rw [this]
    grind
  refine ⟨⟨T.gG.pr, T.gG.ld, T.gG.t, ?_, ⟨P, T.vG⟩, ?_, U, comb s V 0 [], R, r0, pow_up rb (by decide), fun x => ?_⟩, ?_, ?_⟩
  · have h1 : n1 G ≤ 2 ^ 63 := Nat.le_trans T.nG (Nat.pow_le_pow_right (by decide) (by omega))
    have h2 : (2 : Nat) ^ 63 < 2 ^ 64 := by decide
    exact pow_up (Nat.lt_of_le_of_lt h1 h2) (by decide)
  · exact prim_div _ s (rdc (der F)) G Q (Nat.le_refl _) s0 T.gG.pr fun x => by rw [← sv, der_pI, T.vQ]
  · have i1 := e2 x
    have i2 := T.vG x
    have i3 := T.vQ x
    have i4 := sv x
    rw [der_pI, i3] at i4
    rw [pI_comb, pI_nil, i2, ← i1]
    have : (s : Rat) * pI V x * pI (rdc (der F)) x = pI V x * (pI G x * pI Q x) := by rw [i4]; grind
    grind
  · have : (2 : Nat) ^ 63 < 2 ^ 70 := by decide
    omega
  · have : (2 : Nat) ^ 69 < 2 ^ 70 := by decide
    omega
end Gx
namespace DL
open PySem PySem.Spec PyProof.Rows L2
section
variable {K : PySem.W.Frag} {B : Bs} {G : List Hp} {L : List Addr} {H H' : Hp} {σ : L2.St} {Γ : List Sl}
variable {te ta tb : TE} {k : PyData → Prop}
/-- one thing or another, by the first one's truth -/
theorem ev_orT (h : EvP K B G L Γ ta fun d => (∃ ds, d = .tuple ds) ∧ (truD d = true → k d) ∧ (truD d = false → EvP K B G L Γ tb k)) : EvP K B G L Γ (tOrT K ta tb) k := fun σ H Q E q =>
  h σ H _ E fun v d H1 g1 dn ⟨⟨ds, e0⟩, h1, h2⟩ => by
    subst e0
    refine ⟨truD (.tuple ds), ?_, ?_⟩
    · cases dn with
      | @tup a xs ds e h2 =>
        refine .inr (.inl ⟨xs, Same.sqt (hid_sub _ _) e, ?_⟩)
        have := h2.length
        cases xs <;> cases ds <;> simp_all [truD]
    · by_cases c : truD (.tuple ds) = true
      · rw [c]
        exact iteT (q v _ H1 g1 dn (h1 c))
      · have c : truD (.tuple ds) = false := by simpa using c
        rw [c]
        exact iteF (h2 c σ H1 Q g1.env fun v d H3 g3 dn hk => q v d H3 (g1.trans g3) dn hk)
end
end DL
namespace Gx
open PySem PySem.Spec PyProof.Rows L2 DL Mx Px
/-- a row in proportion to another one -/
theorem sc_len {f U : List Int} {z : Int} (z0 : z ≠ 0) (e : ∀ x, pI f x = (z : Rat) * pI U x) (tf : f.getLast? ≠ some 0) (g : Gd U) : f ≠ [] ∧ f.length = U.length ∧ rdc f = U ∧ n1 f ≤ z.natAbs * n1 U := by
  have zn := ratInt_ne z0
  have ck : ∀ k, f.getD k 0 = z * U.getD k 0 := fun k => by
    have := pI_coef (u := f) (v := comb z U 0 []) (fun x => by rw [e, pI_comb, pI_nil]; grind) k
    rw [this, comb_get]
    omega
  have l := g.ld
  have nf : f ≠ [] := fun w => by
    have := ck (U.length - 1)
    rw [w, getD_out (u := []) (Nat.zero_le _)] at this
    exact Int.mul_ne_zero z0 (show U.getD (U.length - 1) 0 ≠ 0 by unfold lc at l; omega) this.symm
  have r := rdc_eq tf nf g.t g.n zn e
  rw [rdc_self g.t g.n g.pr l] at r
  obtain ⟨_, _, _, _, a, _⟩ := rdc_spec tf nf
  refine ⟨nf, by rw [← a, r], r, ?_⟩
  have := n1_comb' z 0 f.length U [] f (Nat.le_refl _) fun k => by rw [ck]; omega
  have o : (0 : Int).natAbs = 0 := rfl
  rw [o] at this
  omega
theorem FT.big {fs : List (List Int × Nat)} {P Q G F : List Int} (T : FT fs P Q G F) : (fs = [] ↔ F.length = 1) ∧ F.length ≤ 6 * fs.length + 1 := by
  have l1 := T.l1
  have lG := T.lG
  have lF := T.lF
  have gl := List.length_pos_iff.mpr T.gG.n
  refine ⟨⟨fun z => ?_, fun z => ?_⟩, lF⟩
  · subst z
    have : ([] : List (List Int × Nat)).length = 0 := rfl
    omega
  · exact List.length_eq_zero_iff.mp (by omega)
theorem gd_len1 {u : List Int} (g : Gd u) (l : u.length = 1) : u = [1] := by
  match u, l with
  | [c], _ =>
    have pr := g.pr
    have l0 : 0 < c := g.ld
    have : Nat.gcd c.natAbs 0 = 1 := pr
    rw [Nat.gcd_zero_right] at this
    congr 1
    omega
theorem gd_val {u v : List Int} (g : Gd u) (h : Gd v) {z : Rat} (z0 : z ≠ 0) (e : ∀ x, pI u x = z * pI v x) : u = v := by
  have := rdc_eq g.t g.n h.t h.n z0 e
  rwa [rdc_self g.t g.n g.pr g.ld, rdc_self h.t h.n h.pr h.ld] at this
theorem quo_val {F G P R : List Int} (gG : Gd G) (gP : Gd P) (e : ∀ x, pI F x = pI G x * pI P x) (e2 : ∀ x, pI F x = pI G x * pI R x) (l : R.length = P.length) : R = P := by
  have ld := gG.ld
  have c : ∀ x, pI R x = pI P x := pI_cancel (G := G) (by omega) fun x => by rw [← e2, e]
  have k := pI_coef c
  refine List.ext_getElem l fun i h1 h2 => ?_
  have := k i
  rw [List.getD_eq_getElem?_getD, List.getD_eq_getElem?_getD, List.getElem?_eq_getElem h1, List.getElem?_eq_getElem h2] at this
  exact this
/-- the plain product is told by the whole -/
theorem FT.uniq {fs gs : List (List Int × Nat)} {P Q G F P' Q' G' F' : List Int} (T : FT fs P Q G F) (T' : FT gs P' Q' G' F') (n3 : fs.length ≤ 3) (m3 : gs.length ≤ 3) {z z' : Int} (z0 : z ≠ 0) (z0' : z' ≠ 0) (e : ∀ x, (z : Rat) * pI F x = (z' : Rat) * pI F' x) : P = P' ∧ F = F' := by
  have zn := ratInt_ne z0
  have zn' := ratInt_ne z0'
  have eF : F = F' := gd_val T.gF T'.gF (z := (z' : Rat) / (z : Rat)) (fun w => by
    have : (z' : Rat) = 0 := by grind
    exact zn' this) fun x => by
      have := e x
      grind
  subst eF
  refine ⟨?_, rfl⟩
  have a := T.big.1
  have b := T'.big.1
  have l1 := T.l1
  have l1' := T'.l1
  have lG := T.lG
  have lG' := T'.lG
  have gl := List.length_pos_iff.mpr T.gG.n
  have gl' := List.length_pos_iff.mpr T'.gG.n
  by_cases q : F.length = 1
  · rw [gd_len1 T.gP (by omega), gd_len1 T'.gP (by omega)]
  · have n0 : 1 ≤ fs.length := by
      rcases Nat.eq_zero_or_pos fs.length with w | w
      · exact (q (a.mp (List.length_eq_zero_iff.mp w))).elim
      · exact w
    have m0 : 1 ≤ gs.length := by
      rcases Nat.eq_zero_or_pos gs.length with w | w
      · exact (q (b.mp (List.length_eq_zero_iff.mp w))).elim
      · exact w
    have eG := (T.isg n0 n3).1.uniq (T'.isg m0 m3).1
    subst eG
    exact quo_val T.gG T'.gP T'.vG T.vG (by omega)
theorem lin_gd {x : Fr} (f : FOk x) : Gd [0 - x.1, x.2] := by
  have x0 : 0 < x.2 := f.1
  refine ⟨?_, x0, fun z => ?_⟩
  · have := f.2
    show Nat.gcd (0 - x.1).natAbs (Nat.gcd x.2.natAbs 0) = 1
    rw [Nat.gcd_zero_right, show (0 - x.1).natAbs = x.1.natAbs by omega]
    exact this
  · have : x.2 = 0 := by simpa using z
    omega
/-- what the other factors are at a root -/
def prd (fs : List (List Int × Nat)) : List Int := fs.foldr (fun p r => mulT (pw p.1 p.2) r) [1]
theorem prd_pI : ∀ (fs : List (List Int × Nat)) (x : Rat), pI (prd fs) x = fV fs x
  | [], x => by
    show pI [1] x = 1
    rw [pI_one]
    rfl
  | p :: fs, x => by
    show pI (mulT (pw p.1 p.2) (prd fs)) x = pI p.1 x ^ p.2 * fV fs x
    rw [mulT_pI, pw_pI, prd_pI fs x]
/-! lists of factors as data -/
def facD (p : List Int × Nat) : PyData := .tuple [.list (p.1.map .int), .int (p.2 : Int)]
theorem lay_lis : ∀ rs : List (List Int), PyData.canLayAll0 (rs.map fun r => .list (r.map .int)) = true ∧ PyData.depthAll (rs.map fun r => PyData.list (r.map .int)) ≤ 2 ∧ PyData.hasDictAll (rs.map fun r => PyData.list (r.map .int)) = false
  | [] => by simp [PyData.canLayAll0, PyData.depthAll, PyData.hasDictAll]
  | x :: r => by
    obtain ⟨a, b, c⟩ := lay_lis r
    obtain ⟨a2, b2, c2⟩ := lay_ints x
    simp [PyData.canLayAll0, PyData.depthAll, PyData.hasDictAll, PyData.canLay0, PyData.depth, PyData.hasDict, a, c, a2, c2] at b ⊢
    omega
theorem lis_shaped (rs : List (List Int)) : SeqAt.shaped (.list (rs.map fun r => PyData.list (r.map .int))) = true ∧ (PyData.list (rs.map fun r => PyData.list (r.map .int))).hasDict = false := by
  obtain ⟨a, b, c⟩ := lay_lis rs
  refine ⟨?_, by simpa [PyData.hasDict] using c⟩
  unfold SeqAt.shaped
  simp only [PyData.canLay0, PyData.depth, a, Bool.true_and]
  exact decide_eq_true (by omega)
theorem lis_any (rs : List (List Int)) (u : List Int) : ((rs.map fun r => PyData.list (r.map .int)).any fun z => PyData.eqv z (.list (u.map .int))) = decide (u ∈ rs) := by
  induction rs with
  | nil => rfl
  | cons r rs ih =>
    rw [List.map_cons, List.any_cons, ih]
    have : PyData.eqv (.list (r.map .int)) (.list (u.map .int)) = decide (r = u) := ints_eqv r u
    rw [this]
    by_cases q : r = u
    · subst q; simp
    · by_cases w : u ∈ rs
      · simp [w]
      · have : u ≠ r := Ne.symm q
        simp [q, w, this]
theorem int_shaped (r : List Int) : SeqAt.shaped (PyData.list (r.map .int)) = true ∧ (PyData.list (r.map .int)).hasDict = false := by
  obtain ⟨a, _⟩ := ints_shaped r
  exact ⟨a, ints_nd r⟩
end Gx
namespace Gx
open PySem PySem.Spec PyProof.Rows L2 DL Mx Px
/-- a row that reduced is a factor -/
structure FP (u : List Int) : Prop where
  n : u ≠ []
  t : u.getLast? ≠ some 0
  l : u.length ≤ 3
  b : n1 u < 2 ^ 10
  f : Fac (rdc u)
theorem fp_lin {x : Fr} (f : FOk x) (b1 : x.1.natAbs < 2 ^ 6) (b2 : x.2 < 2 ^ 6) : FP [0 - x.1, x.2] := by
  have g := lin_gd f
  have x0 := f.1
  refine ⟨g.n, g.t, by show 2 ≤ 3; decide, ?_, ?_⟩
  · show (0 - x.1).natAbs + (x.2.natAbs + 0) < 2 ^ 10
    have : (2 : Nat) ^ 10 = 1024 := rfl
    have : (2 : Nat) ^ 6 = 64 := rfl
    have : (2 : Int) ^ 6 = 64 := rfl
    omega
  · rw [rdc_self g.t g.n g.pr g.ld]
    exact .inl ⟨x, f, b1, b2, rfl⟩
theorem fp_root {r : Int} (h : r ∈ ([2, 3, 5, 6, 7] : List Int)) : FP [0 - r, 0, 1] ∧ FP [0 - r, 0, 4] ∧ FP [1, 0, r] := by
  simp only [List.mem_cons, List.not_mem_nil, or_false] at h
  rcases h with rfl | rfl | rfl | rfl | rfl
  all_goals exact ⟨⟨by decide, by decide, by decide, by decide, .inr (by decide)⟩, ⟨by decide, by decide, by decide, by decide, .inr (by decide)⟩, ⟨by decide, by decide, by decide, by decide, .inr (by decide)⟩⟩
theorem fp_two : FP [2, -4, 1] ∧ FP [1, -3, 1] := ⟨⟨by decide, by decide, by decide, by decide, .inr (by decide)⟩, ⟨by decide, by decide, by decide, by decide, .inr (by decide)⟩⟩
theorem mul_nn {u f : List Int} (un : u ≠ []) (ut : u.getLast? ≠ some 0) (g : Gd f) {t : List Int} (e : ∀ x, pI t x = pI u x * pI f x) : t ≠ [] := fun z => by
  have ld := g.ld
  have l := lc_ne ut un
  have ul := List.length_pos_iff.mpr un
  have fl := List.length_pos_iff.mpr g.n
  have tp := mulL_top u f ul fl
  have := pI_coef (u := t) (v := mulL u f) (fun x => by rw [e, mulL_pI]) (u.length - 1 + (f.length - 1))
  rw [z, getD_out (u := []) (Nat.zero_le _), tp] at this
  exact Int.mul_ne_zero l (show f.getD (f.length - 1) 0 ≠ 0 by unfold lc at ld; omega) this.symm
theorem intsTop {u : List Int} (h : u ≠ []) : atI (u.map PyData.int) (((u.map PyData.int).length : Nat) - 1 : Int) = some (.int (lc u)) := by
  have := List.length_pos_iff.mpr h
  rw [List.length_map, show ((u.length : Nat) : Int) - 1 = ((u.length - 1 : Nat) : Int) by omega, atI_n, List.getElem?_map]
  unfold lc
  rw [List.getD_eq_getElem?_getD, List.getElem?_eq_getElem (by omega)]
  rfl
theorem facD_inj : ∀ {a b : List (List Int × Nat)}, a.map facD = b.map facD → a = b
  | [], [], _ => rfl
  | [], _ :: _, h => by simp at h
  | _ :: _, [], h => by simp at h
  | x :: a, y :: b, h => by
    simp only [List.map_cons, List.cons.injEq] at h
    have h1 := h.1
    unfold facD at h1
    simp only [PyData.tuple.injEq, List.cons.injEq, PyData.list.injEq, PyData.int.injEq, and_true] at h1
    have e1 := map_int_inj h1.1
    have e2 : x.2 = y.2 := by omega
    have : x = y := Prod.ext e1 e2
    rw [this, facD_inj h.2]
end Gx
/-! Walks over what may be a list or a tuple. -/
namespace DL
open PySem PySem.Spec PyProof.Rows L2
def iLT (K : PySem.W.Frag) (tl : TE) : TI := fun σ H R => tl σ H fun x H1 => ∃ a, x = .ref a ∧ (((∃ xs, SqL K H1 a xs) ∧ R (Itl K a) H1) ∨ ((∃ xs, SqT K H1 a xs) ∧ R (Itt K a) H1))
section
variable {X : Cx} {tg l : Expr} {tl : TE}
theorem pi_LT (hl : PE X l tl) : PI X tg l (iLT X.K tl) := ⟨by
  intro ps s0 ρ H0 R0 I0 h0
  have ev := hl.run ps s0 ρ H0 _ I0 h0
  refine thn ev ?_
  rintro v s1 ⟨x, H1, J1, rx, c, ec, hc⟩
  subst ec
  cases rx
  have fresh : FpOk X ps H1 s1.heap.objs.size := J1.fpOk (Nat.le_refl _) (J1.hok.fresh (Nat.le_refl _))
  have foot : ∀ b ∈ [s1.heap.objs.size], FpOk X ps H1 b := fun b hb => (List.mem_singleton.mp hb) ▸ fresh
  rcases hc with ⟨⟨ys, hy⟩, hR⟩ | ⟨⟨ys, hy⟩, hR⟩
  · obtain ⟨us, _, pl, _⟩ := J1.list hy
    exact wpAny_pyIter_list pl.isList ⟨_, _, _, _, H1, rfl, J1.kept (t' := s1.toks) (fun b o eo => Heap.get?_push_of_some _ eo), turn_list c _, ⟨_, Heap.get?_push_size _ rfl, rfl, rfl⟩, foot, hR⟩
  · obtain ⟨us, _, pt, _⟩ := J1.tuple hy
    exact wpAny_pyIter_tuple (show s1.heap.IsTuple c us.toArray from pt) ⟨_, _, _, _, H1, rfl, J1.kept (t' := s1.toks) (fun b o eo => Heap.get?_push_of_some _ eo), turn_tuple c _, ⟨_, Heap.get?_push_size _ rfl, rfl, rfl⟩, foot, hR⟩⟩
end
section
variable {K : PySem.W.Frag} {B : Bs} {G : List Hp} {L : List Addr} {H H' H2 : Hp} {σ : L2.St} {Γ : List Sl}
variable {te tl : TE} {tt : TT} {t : TS} {P : PD}
def rowLT (b : Bool) (ds : List PyData) : PyData := if b then .list ds else .tuple ds
theorem st_forLT {j : Nat} (h : EvP K B G L Γ tl fun d => ∃ (b : Bool) (ds : List PyData), d = rowLT b ds ∧ ∃ I : Nat → List Addr → List Sl → Prop, I 0 L Γ ∧
    (∀ i d' L' Γ' g, ds[i]? = some d' → I i L' Γ' → StP K B (g :: G) L' (Γ'.set j (.d d')) t (P.inLoop (I (i + 1)))) ∧ ∀ L' Γ', I ds.length L' Γ' → P.nx L' Γ') :
    StP K B G L Γ (tFor (iLT K tl) (gName j) t) P := fun σ H D E M =>
  h σ H _ E fun v d H1 g1 dn ⟨b, ds, e, I, h0, hs, hd⟩ => by
    subst e
    have step : ∀ {xs : List V}, DnA K (hid (L ++ B.M) H1) xs ds → ∀ (i : Nat) (x : V) (σ' : L2.St) (H' : Hp), xs[i]? = some x → (∃ L' Γ', I i L' Γ' ∧ Env K B (hid (L ++ B.M) H1 :: G) L' H' σ' Γ') → t { D with nx := fun σ2 H2 => ∃ L' Γ', I (i + 1) L' Γ' ∧ Env K B (hid (L ++ B.M) H1 :: G) L' H2 σ2 Γ', ct := fun σ2 H2 => ∃ L' Γ', I (i + 1) L' Γ' ∧ Env K B (hid (L ++ B.M) H1 :: G) L' H2 σ2 Γ', bk := D.nx } (σ'.set j (some x)) H' := fun {xs} h2 i x σ' H' hi ⟨L', Γ', hI, E'⟩ => by
      obtain ⟨d', e', dn'⟩ := h2.getV hi
      exact hs i d' L' Γ' _ e' hI _ H' _ (E'.put j (dn'.mono (E'.gh _ (List.mem_cons_self ..)))) ⟨fun L2 Γ2 σ2 H2 q E2 => ⟨L2, Γ2, q, E2⟩, M.rt, fun L2 Γ2 σ2 H2 q E2 => M.nx _ _ _ _ q E2.gpop, fun L2 Γ2 σ2 H2 q E2 => ⟨L2, Γ2, q, E2⟩⟩
    have E1 := g1.env.gpush
    cases b with
    | true =>
      have dn : Dn K (hid (L ++ B.M) H1) v (.list ds) := dn
      cases dn with
      | @lst a xs _ e1 h2 =>
        refine ⟨a, rfl, .inl ⟨⟨xs, .inl (.inl (hid_sub _ _ _ _ e1))⟩, for_list (xs := xs) (fun i σ' H' => ∃ L' Γ', I i L' Γ' ∧ Env K B (hid (L ++ B.M) H1 :: G) L' H' σ' Γ') ⟨L, Γ, h0, E1⟩ (fun i σ' H' _ ⟨L', Γ', _, E'⟩ => .inl (.inl (hid_sub _ _ _ _ (E'.gh _ (List.mem_cons_self ..) _ _ e1)))) (fun i x σ' H' hi hh => step h2 i x σ' H' hi hh) (fun σ' H' ⟨L', Γ', hI, E'⟩ => ?_)⟩⟩
        rw [h2.length] at hI
        exact M.nx _ _ _ _ (hd L' Γ' hI) E'.gpop
    | false =>
      have dn : Dn K (hid (L ++ B.M) H1) v (.tuple ds) := dn
      cases dn with
      | @tup a xs _ e1 h2 =>
        refine ⟨a, rfl, .inr ⟨⟨xs, Same.sqt (hid_sub _ _) e1⟩, for_tup (xs := xs) (fun i σ' H' => ∃ L' Γ', I i L' Γ' ∧ Env K B (hid (L ++ B.M) H1 :: G) L' H' σ' Γ') ⟨L, Γ, h0, E1⟩ (fun i σ' H' _ ⟨L', Γ', _, E'⟩ => Same.sqt (hid_sub _ _) (Same.sqt (E'.gh _ (List.mem_cons_self ..)) e1)) (fun i x σ' H' hi hh => step h2 i x σ' H' hi hh) (fun σ' H' ⟨L', Γ', hI, E'⟩ => ?_)⟩⟩
        rw [h2.length] at hI
        exact M.nx _ _ _ _ (hd L' Γ' hI) E'.gpop
theorem en_lcLT {j : Nat} {vs : List Nat} {kl : List PyData → Prop} (hw : ∀ (σ : L2.St) x, L2.wipe ((L2.wipe σ vs).set j (some x)) vs = L2.wipe σ vs)
    (h : EvP K B G L Γ tl fun d => ∃ (b : Bool) (ds : List PyData), d = rowLT b ds ∧ ds.length ≤ 100000 ∧ ∃ J, CompOk K B G L Γ j tt te vs ds.length (fun i d' => ds[i]? = some d') J ∧ ∀ acc, J ds.length acc → kl acc) :
    EvN K B G L Γ (tLc (iLT K tl) (gName j) tt te vs) kl := fun σ H Q E q =>
  h σ H _ E fun v d H1 g1 dn ⟨b, ds, e, hl, J, C, hk⟩ => by
    subst e
    have st0 : ∀ {D : Addr}, H1 D = none → Sofar K B L H1 (upd H1 D (.lst [])) D 0 J := fun {D} hD => ⟨fun a o w e => same_upd hD a o e, fun w hw => by
      obtain ⟨n, b, c, e, q⟩ := g1.env.ws w hw
      exact ⟨n, b, c, same_upd hD _ _ e, q⟩, [], [], C.1, Nat.le_refl _, upd_same, .nil⟩
    have fin : ∀ {xs : List V} {D : Addr} {H' : Hp}, DnA K (hid (L ++ B.M) H1) xs ds → H1 D = none → Sofar K B L H1 H' D xs.length J → Q (.ref D) H' := fun {xs D H'} h2 hD S => by
      have g0 : Go K B G L Γ H1 H' σ := Go.of_rel g1.env S.rl S.ws
      obtain ⟨accV, acc, hJ, _, e, dA⟩ := S.it
      rw [h2.length] at hJ
      exact q D accV acc H' (g1.trans g0) (Go.fresh E g1 hD) e dA (hk acc hJ)
    cases b with
    | true =>
      have dn : Dn K (hid (L ++ B.M) H1) v (.list ds) := dn
      cases dn with
      | @lst a xs _ e1 h2 =>
        refine ⟨a, rfl, .inl ⟨⟨xs, .inl (.inl (hid_sub _ _ _ _ e1))⟩, fun D hD => lc_list (xs := xs) (fun i H' => Sofar K B L H1 H' D i J) (st0 hD) (fun i H' _ S => ?_) (fun i x H' hi S => ?_) (fun H' S => fin h2 hD S)⟩⟩
        · have g0 : Go K B G L Γ H1 H' σ := Go.of_rel g1.env S.rl S.ws
          exact .inl (.inl (hid_sub _ _ _ _ (g0.sm _ _ e1)))
        · obtain ⟨d', e', dn'⟩ := h2.getV hi
          exact ⟨hw σ x, comp_turn g1.env hD C hl S e' (List.getElem?_eq_some_iff.mp e').1 dn'⟩
    | false =>
      have dn : Dn K (hid (L ++ B.M) H1) v (.tuple ds) := dn
      cases dn with
      | @tup a xs _ e1 h2 =>
        refine ⟨a, rfl, .inr ⟨⟨xs, Same.sqt (hid_sub _ _) e1⟩, fun D hD => lc_tup (xs := xs) (fun i H' => Sofar K B L H1 H' D i J) (st0 hD) (fun i H' _ S => ?_) (fun i x H' hi S => ?_) (fun H' S => fin h2 hD S)⟩⟩
        · have g0 : Go K B G L Γ H1 H' σ := Go.of_rel g1.env S.rl S.ws
          exact Same.sqt (hid_sub _ _) (Same.sqt g0.sm e1)
        · obtain ⟨d', e', dn'⟩ := h2.getV hi
          exact ⟨hw σ x, comp_turn g1.env hD C hl S e' (List.getElem?_eq_some_iff.mp e').1 dn'⟩
end
end DL
namespace Gx
open PySem PySem.Spec PyProof.Rows L2 DL Mx Px
/-! without a common root, with a small number -/
def CopB (a b : List Int) (n : Nat) : Prop := ∃ (U V : List Int) (R : Int), R ≠ 0 ∧ R.natAbs < 2 ^ n ∧ ∀ x, pI U x * pI a x + pI V x * pI b x = (R : Rat)
theorem CopB.symm {a b : List Int} {n : Nat} (h : CopB a b n) : CopB b a n := by
  obtain ⟨U, V, R, r0, rb, e⟩ := h
  exact ⟨V, U, R, r0, rb, fun x => by rw [← e x]; grind⟩
theorem CopB.mul {a b c d : List Int} {n m : Nat} (h : CopB a b n) (k : CopB a c m) (e : ∀ x, pI d x = pI b x * pI c x) : CopB a d (n + m) := by
  obtain ⟨U, V, R, r0, rb, e1⟩ := h
  obtain ⟨U', V', R', r0', rb', e2⟩ := k
  refine ⟨comb 1 (mulL U (comb 1 (mulL U' a) 1 (mulL V' c))) 1 (mulL V (mulL b U')), mulL V V', R * R', Int.mul_ne_zero r0 r0', natAbs_mul_lt rb rb', fun x => ?_⟩
  have i1 := e1 x
  have i2 := e2 x
  have z1 : ((1 : Int) : Rat) = 1 := rfl
  rw [pI_comb, mulL_pI, pI_comb, mulL_pI, mulL_pI, mulL_pI, mulL_pI, mulL_pI, e, z1, Rat.intCast_mul, ← i1, ← i2]
  grind
theorem CopB.one {a : List Int} : CopB a [1] 1 := ⟨[], [1], 1, by decide, by decide, fun x => by
  have z1 : ((1 : Int) : Rat) = 1 := rfl
  rw [pI_nil, pI_one, z1]
  grind⟩
theorem CopB.up {a b : List Int} {n m : Nat} (h : CopB a b n) (l : n ≤ m) : CopB a b m := by
  obtain ⟨U, V, R, r0, rb, e⟩ := h
  exact ⟨U, V, R, r0, pow_up rb l, e⟩
theorem ql_rsb : ∀ p ∈ QL, ∀ q ∈ QL, (rs2 p q).natAbs < 2 ^ 20 := by decide +kernel
theorem ql_small : ∀ a b c : Int, [a, b, c] ∈ QL → a.natAbs ≤ 7 ∧ b.natAbs ≤ 7 ∧ c.natAbs ≤ 7 := by
  have h : ∀ q ∈ QL, (q.getD 0 0).natAbs ≤ 7 ∧ (q.getD 1 0).natAbs ≤ 7 ∧ (q.getD 2 0).natAbs ≤ 7 := by decide +kernel
  exact fun a b c hq => h _ hq
theorem copb_qq {p q : List Int} (hp : p ∈ QL) (hq : q ∈ QL) (n : p ≠ q) : CopB p q 20 := by
  have r := ql_rs p hp q hq n
  have rb := ql_rsb p hp q hq
  obtain ⟨p0, p1, p2, rfl⟩ := ql_form p hp
  obtain ⟨q0, q1, q2, rfl⟩ := ql_form q hq
  obtain ⟨a, ha⟩ : ∃ a, a = p2 * q1 - q2 * p1 := ⟨_, rfl⟩
  obtain ⟨b, hb⟩ : ∃ b, b = p2 * q0 - q2 * p0 := ⟨_, rfl⟩
  have hr : rs2 [p0, p1, p2] [q0, q1, q2] = p0 * (a * a) - p1 * (a * b) + p2 * (b * b) := by rw [ha, hb]; rfl
  rw [hr] at r rb
  refine ⟨[a * a + q2 * (p1 * a - p2 * b), q2 * (p2 * a)], [0 - p2 * (p1 * a - p2 * b), 0 - p2 * (p2 * a)], _, r, rb, fun x => ?_⟩
  rw [pI2, pI2, pI3, pI3]
  have z0 : ((0 : Int) : Rat) = 0 := rfl
  have va : (a : Rat) = (p2 : Rat) * (q1 : Rat) - (q2 : Rat) * (p1 : Rat) := by rw [ha, Rat.intCast_sub, Rat.intCast_mul, Rat.intCast_mul]
  have vb : (b : Rat) = (p2 : Rat) * (q0 : Rat) - (q2 : Rat) * (p0 : Rat) := by rw [hb, Rat.intCast_sub, Rat.intCast_mul, Rat.intCast_mul]
  simp only [Rat.intCast_add, Rat.intCast_sub, Rat.intCast_mul, z0]
  rw [va, vb]
  grind
theorem mul_le2 {a b : Int} {m n : Nat} (h1 : a.natAbs ≤ m) (h2 : b.natAbs ≤ n) : (a * b).natAbs ≤ m * n := by
  rw [Int.natAbs_mul]
  exact Nat.mul_le_mul h1 h2
theorem copb_lq {x : Fr} (f : FOk x) (b1 : x.1.natAbs < 2 ^ 6) (b2 : x.2 < 2 ^ 6) {q : List Int} (hq : q ∈ QL) : CopB [0 - x.1, x.2] q 20 := by
  obtain ⟨a, b, c, rfl⟩ := ql_form q hq
  obtain ⟨s1, s2, s3⟩ := ql_small a b c hq
  obtain ⟨n, m⟩ := x
  have b1 : n.natAbs < 2 ^ 6 := b1
  have b2 : m < 2 ^ 6 := b2
  have m0' : 0 < m := f.1
  have m0 : m ≠ 0 := by omega
  refine ⟨[0 - (m * b + n * c), 0 - m * c], [m * m], _, ql_irr a b c hq n m m0, ?_, fun x => ?_⟩
  · have q1 : (2 : Nat) ^ 6 = 64 := rfl
    have q2 : (2 : Int) ^ 6 = 64 := rfl
    have h1 : (m * m).natAbs ≤ 64 * 64 := mul_le2 (by omega) (by omega)
    have h2 : (n * m).natAbs ≤ 64 * 64 := mul_le2 (by omega) (by omega)
    have h3 : (n * n).natAbs ≤ 64 * 64 := mul_le2 (by omega) (by omega)
    have k1 : (a * (m * m)).natAbs ≤ 7 * (64 * 64) := mul_le2 s1 h1
    have k2 : (b * (n * m)).natAbs ≤ 7 * (64 * 64) := mul_le2 s2 h2
    have k3 : (c * (n * n)).natAbs ≤ 7 * (64 * 64) := mul_le2 s3 h3
    have : (2 : Nat) ^ 20 = 1048576 := rfl
    omega
  · show pI [0 - (m * b + n * c), 0 - m * c] x * pI [0 - n, m] x + pI [m * m] x * pI [a, b, c] x = _
    rw [pI2, pI2, pI_one, pI3]
    have z0 : ((0 : Int) : Rat) = 0 := rfl
    simp only [Rat.intCast_add, Rat.intCast_sub, Rat.intCast_mul, z0]
    grind
theorem copb_ll {x y : Fr} (f : FOk x) (g : FOk y) (h : x ≠ y) (x1 : x.1.natAbs < 2 ^ 6) (x2 : x.2 < 2 ^ 6) (y1 : y.1.natAbs < 2 ^ 6) (y2 : y.2 < 2 ^ 6) : CopB [0 - x.1, x.2] [0 - y.1, y.2] 20 := by
  have x0 := f.1
  have y0 := g.1
  have n1 := ratInt_ne (a := x.2) (by omega)
  have n2 := ratInt_ne (a := y.2) (by omega)
  refine ⟨[y.2], [0 - x.2], x.2 * y.1 - x.1 * y.2, fun z => h (FOk.inj f g ?_), ?_, fun t => ?_⟩
  · have : (x.2 : Rat) * (y.1 : Rat) = (x.1 : Rat) * (y.2 : Rat) := by
      rw [← Rat.intCast_mul, ← Rat.intCast_mul]
      exact congrArg (fun i : Int => (i : Rat)) (by omega)
    unfold val
    grind
  · have q1 : (2 : Nat) ^ 6 = 64 := rfl
    have q2 : (2 : Int) ^ 6 = 64 := rfl
    have k1 : (x.2 * y.1).natAbs ≤ 64 * 64 := mul_le2 (by omega) (by omega)
    have k2 : (x.1 * y.2).natAbs ≤ 64 * 64 := mul_le2 (by omega) (by omega)
    have : (2 : Nat) ^ 20 = 1048576 := rfl
    omega
  · rw [pI2, pI2, pI_one, pI_one]
    have z0 : ((0 : Int) : Rat) = 0 := rfl
    simp only [Rat.intCast_add, Rat.intCast_sub, Rat.intCast_mul, z0]
    grind
theorem Fac.copb {u v : List Int} (h : Fac u) (k : Fac v) (n : u ≠ v) : CopB u v 20 := by
  rcases h with ⟨x, f, x1, x2, rfl⟩ | h
  · rcases k with ⟨y, g, y1, y2, rfl⟩ | k
    · exact copb_ll f g (fun z => n (by rw [z])) x1 x2 y1 y2
    · exact copb_lq f x1 x2 k
  · rcases k with ⟨y, g, y1, y2, rfl⟩ | k
    · exact (copb_lq g y1 y2 h).symm
    · exact copb_qq h k n
theorem CopB.pow {u v : List Int} {n : Nat} (h : CopB u v n) : ∀ m, CopB u (pw v m) (n * m + 1)
  | 0 => by
    rw [Nat.mul_zero]
    exact CopB.one
  | m + 1 => by
    have := (CopB.pow h m).mul h (d := pw v (m + 1)) fun x => mulT_pI _ _ x
    exact this.up (by rw [Nat.mul_succ]; omega)
theorem copb_prd {u : List Int} {n k : Nat} : ∀ {fs : List (List Int × Nat)}, (∀ p ∈ fs, CopB u p.1 n ∧ p.2 ≤ k) → CopB u (prd fs) ((n * k + 1) * fs.length + 1)
  | [], _ => CopB.one.up (by omega)
  | p :: fs, h => by
    obtain ⟨c, l⟩ := h p (List.mem_cons_self ..)
    have ih := copb_prd (fs := fs) fun q hq => h q (List.mem_cons_of_mem _ hq)
    have := (c.pow p.2).mul ih (d := prd (p :: fs)) fun x => mulT_pI _ _ x
    refine this.up ?_
    have h1 := Nat.mul_le_mul_left n l
    rw [List.length_cons, Nat.mul_succ]
    omega
theorem prd_gd : ∀ {fs : List (List Int × Nat)}, (∀ p ∈ fs, Fac p.1) → Gd (prd fs)
  | [], _ => gd_one
  | p :: fs, h => (pw_gd (h p (List.mem_cons_self ..)).gd.1 p.2).mul (prd_gd fun q hq => h q (List.mem_cons_of_mem _ hq))
theorem prd_bd : ∀ {fs : List (List Int × Nat)}, (∀ p ∈ fs, Fac p.1 ∧ p.2 ≤ 2) → n1 (prd fs) ≤ 2 ^ (14 * fs.length) ∧ (prd fs).length ≤ 4 * fs.length + 1
  | [], _ => ⟨Nat.le_refl 1, Nat.le_refl 1⟩
  | p :: fs, h => by
    obtain ⟨hf, l⟩ := h p (List.mem_cons_self ..)
    obtain ⟨a, b⟩ := prd_bd (fs := fs) fun q hq => h q (List.mem_cons_of_mem _ hq)
    obtain ⟨gf, bf, l2, l3⟩ := hf.gd
    have g2 := prd_gd (fs := fs) fun q hq => (h q (List.mem_cons_of_mem _ hq)).1
    have lp := (pw_gd gf p.2).ld
    have lq := g2.ld
    obtain ⟨t, _⟩ := mulT_top (u := pw p.1 p.2) (v := prd fs) (by omega) (by omega)
    have pl := pw_len gf l3 p.2
    constructor
    · have h1 := mulT_n1 (pw p.1 p.2) (prd fs)
      have h2 : n1 (pw p.1 p.2) ≤ 2 ^ 14 := Nat.le_trans (pw_n1 (Nat.le_of_lt bf) p.2) (Nat.pow_le_pow_right (by decide) (by omega))
      rw [List.length_cons, show 14 * (fs.length + 1) = 14 + 14 * fs.length by omega, Nat.pow_add]
      exact Nat.le_trans h1 (Nat.mul_le_mul h2 a)
    · show (mulT (pw p.1 p.2) (prd fs)).length ≤ _
      rw [List.length_cons]
      omega
theorem fV_app : ∀ (fs gs : List (List Int × Nat)) (x : Rat), fV (fs ++ gs) x = fV fs x * fV gs x
  | [], gs, x => by
    show fV gs x = 1 * _
    grind
  | p :: fs, gs, x => by
    show pI p.1 x ^ p.2 * fV (fs ++ gs) x = pI p.1 x ^ p.2 * fV fs x * _
    rw [fV_app fs gs x]
    grind
/-- two products of unlike factors have no root in common -/
theorem copb_two {w : List Int} {N : Nat} : ∀ {gs : List (List Int × Nat)}, (∀ q ∈ gs, CopB q.1 w N ∧ q.2 ≤ 2) → CopB (prd gs) w ((2 * N + 1) * gs.length + 1)
  | gs, h => by
    have := copb_prd (u := w) (n := N) (k := 2) (fs := gs) fun q hq => ⟨(h q hq).1.symm, (h q hq).2⟩
    exact (this.symm).up (by rw [Nat.mul_comm N 2]; exact Nat.le_refl _)
/-- the common divisor of products with a common part -/
theorem isg_parts {B O W : List Int} (gB : Gd B) (gO : Gd O) (gW : Gd W) {n : Nat} (c : CopB O W n) (nB : n1 B < 2 ^ n) : IsG (mulT B O) (mulT B W) B n := by
  obtain ⟨U, V, R, r0, rb, e⟩ := c
  refine ⟨gB.pr, gB.ld, gB.t, nB, ⟨O, fun x => mulT_pI B O x⟩, ⟨W, fun x => mulT_pI B W x⟩, U, V, R, r0, rb, fun x => ?_⟩
  rw [mulT_pI, mulT_pI, ← e x]
  grind
theorem isg_const {f : List Int} {n : Nat} (h : 1 ≤ n) : IsG f [1] [1] n := by
  have z1 : ((1 : Int) : Rat) = 1 := rfl
  refine ⟨by decide, by decide, by decide, ?_, ⟨f, fun x => ?_⟩, ⟨[1], fun x => ?_⟩, [], [1], 1, by decide, ?_, fun x => ?_⟩
  · have := Nat.pow_le_pow_right (show 0 < 2 by decide) h
    show 1 < 2 ^ n
    omega
  · rw [pI_one, z1, Rat.one_mul]
  · rw [pI_one, z1, Rat.one_mul]
  · have := Nat.pow_le_pow_right (show 0 < 2 by decide) h
    show 1 < 2 ^ n
    omega
  · rw [pI_nil, pI_one, z1]
    grind
/-! values -/
theorem hor_b6 {t b : Int} (ht : t.natAbs ≤ 2 ^ 6) (hb : b.natAbs ≤ 2 ^ 6) : ∀ u : List Int, (hor t b u).natAbs ≤ n1 u * 2 ^ (6 * u.length)
  | [] => Nat.zero_le _
  | x :: xs => by
    have ih := hor_b6 ht hb xs
    show (hor t b xs * t + x * b ^ xs.length).natAbs ≤ (x.natAbs + n1 xs) * 2 ^ (6 * (xs.length + 1))
    have h1 : (hor t b xs * t).natAbs ≤ (n1 xs * 2 ^ (6 * xs.length)) * 2 ^ 6 := by
      rw [Int.natAbs_mul]
      exact Nat.mul_le_mul ih ht
    have h2 : (x * b ^ xs.length).natAbs ≤ x.natAbs * 2 ^ (6 * xs.length) := by
      rw [Int.natAbs_mul, Int.natAbs_pow, Nat.pow_mul]
      exact Nat.mul_le_mul_left _ (Nat.pow_le_pow_left hb _)
    have h3 : 2 ^ (6 * (xs.length + 1)) = 2 ^ (6 * xs.length) * 2 ^ 6 := by rw [Nat.mul_succ, Nat.pow_add]
    have h4 : x.natAbs * 2 ^ (6 * xs.length) ≤ x.natAbs * (2 ^ (6 * xs.length) * 2 ^ 6) := Nat.mul_le_mul_left _ (Nat.le_mul_of_pos_right _ (by decide))
    rw [h3, Nat.add_mul]
    rw [Nat.mul_assoc] at h1
    have := Int.natAbs_add_le (hor t b xs * t) (x * b ^ xs.length)
    omega
theorem ev_is (u : List Int) (x : Rat) : Mx.ev u x = pI u x := (pI_fev u x).symm
/-- sizes of values -/
theorem val_bd {x r : Fr} (f : FOk x) (b1 : x.1.natAbs < 2 ^ 6) (b2 : x.2 < 2 ^ 6) {u : List Int} (g : FOk r) (h : val r = pI u (val x)) (lu : u.length ≤ 30) (nu : n1 u < 2 ^ 100) : r.1.natAbs < 2 ^ 280 ∧ r.2.natAbs < 2 ^ 280 := by
  have x0 := f.1
  have q1 : (2 : Nat) ^ 6 = 64 := rfl
  have q2 : (2 : Int) ^ 6 = 64 := rfl
  have e := hor_ev (t := x.1) x0 u
  rw [show ((x.1 : Int) : Rat) / ((x.2 : Int) : Rat) = val x from rfl, ev_is, ← h] at e
  have p0 : 0 < x.2 ^ (u.length - 1) := Int.pow_pos x0
  obtain ⟨s1, s2, _⟩ := g.small (u := hor x.1 x.2 u) p0 (by
    rw [Rat.intCast_pow, e]
    grind)
  constructor
  · have h1 := hor_b6 (t := x.1) (b := x.2) (by omega) (by omega) u
    have h2 : n1 u * 2 ^ (6 * u.length) < 2 ^ (100 + 180) := by
      have h3 : 2 ^ (6 * u.length) ≤ 2 ^ 180 := Nat.pow_le_pow_right (by decide) (by omega)
      rw [Nat.pow_add]
      exact Nat.lt_of_le_of_lt (Nat.mul_le_mul_left _ h3) (Nat.mul_lt_mul_of_pos_right nu (Nat.pow_pos (by decide)))
    omega
  · rw [Int.natAbs_pow] at s2
    have h1 : x.2.natAbs ^ (u.length - 1) ≤ (2 ^ 6) ^ (u.length - 1) := Nat.pow_le_pow_left (by omega) _
    rw [← Nat.pow_mul] at h1
    have h2 : 2 ^ (6 * (u.length - 1)) ≤ 2 ^ 180 := Nat.pow_le_pow_right (by decide) (by omega)
    have h3 : (2 : Nat) ^ 180 < 2 ^ 280 := Nat.pow_lt_pow_right (by decide) (by decide)
    omega
end Gx
namespace Gx
open PySem PySem.Spec PyProof.Rows L2 DL Mx Px
theorem lt_inj {b c : Bool} {u v : List Int} (h : [rowLT b (u.map .int)] = [rowLT c (v.map .int)]) : u = v := by
  have h := (List.cons.inj h).1
  cases b <;> cases c
  · exact map_int_inj (PyData.tuple.inj h)
  · cases h
  · cases h
  · exact map_int_inj (PyData.list.inj h)
theorem lt_kind (b : Bool) (xs : List PyData) : rowLT b xs = .tuple xs ∨ rowLT b xs = .list xs := by
  cases b
  · exact .inl rfl
  · exact .inr rfl
end Gx
set_option maxRecDepth 100000
set_option maxHeartbeats 4000000
namespace Law
open PySem PySem.Spec PyProof.Rows L2 DL Mx Px Gx
local macro_rules | `(tactic| walk_at "d") => `(tactic| first
  | with_reducible refine st_seq ?_ | with_reducible refine st_if ?_ | with_reducible refine st_ret ?_ | with_reducible refine st_next ?_
  | with_reducible refine et_or ?_ | with_reducible refine et_and ?_ | with_reducible refine et_not ?_ | with_reducible refine et_test ?_ | with_reducible refine et_B ?_
  | with_reducible refine ev_int ?_ | with_reducible refine ev_bl ?_ | with_reducible refine ev_non ?_ | with_reducible refine ev_str ?_
  | with_reducible refine ev_isiInt ?_ | with_reducible refine ev_isiBool ?_ | with_reducible refine ev_isiTup ?_
  | with_reducible refine ev_andV ?_ | with_reducible refine ev_orV ?_ | with_reducible refine ev_notV ?_ | with_reducible refine ev_if ?_ | with_reducible refine ev_chain ?_ | with_reducible refine ev_tup ?_ | with_reducible refine ev_lst ?_ | refine sz_and (by simp) ?_
  | with_reducible refine ev_op ?_ | with_reducible refine ev_un ?_ | with_reducible refine ev_sl ?_ | refine ev_lenOwn rfl ?_ | with_reducible refine ev_new (en_listQ ?_) | with_reducible refine ev_cb ?_ | with_reducible refine ev_dictD ?_ | with_reducible refine ev_isN ?_
  | with_reducible refine ea_cons ?_ | with_reducible refine ea_nil ?_ | with_reducible refine eo_no ?_ | with_reducible refine eo_some ?_
  | with_reducible refine co_lenT ?_ | with_reducible refine co_lenL ?_ | with_reducible refine co_abs ?_ | with_reducible refine co_int ?_ | with_reducible refine cok_gcd ?_
  | with_reducible refine rok_b0 ?_ | with_reducible refine rok_i0 ?_ | with_reducible refine rok_eqI ?_ | with_reducible refine rok_neI ?_ | with_reducible refine ro_add ?_ | with_reducible refine rok_notB ?_ | with_reducible refine rok_isB ?_
  | with_reducible refine ro_mulL (by decide) (by decide) ?_ | with_reducible refine so_tup ?_ | with_reducible refine so_lst ?_ | with_reducible refine uok_neg ?_
  | with_reducible refine tg_cons ?_ | with_reducible refine tg_nil ?_
  | refine ev_var rfl ?_
  | with_reducible refine ⟨_, rfl, ?_⟩
  | with_reducible refine ⟨_, Or.inl rfl, ?_⟩)
local macro_rules | `(tactic| walk_at "dd") => `(tactic| repeat walk_at "d")
local macro_rules | `(tactic| walk_at "d") => `(tactic| first | with_reducible refine ixf0 ?_ | with_reducible refine ixf1 ?_)
def topS (i : Nat) : Stmt := PySem.Challenge.pw_shaftshakes_k02_whole_values_and_common.main.body.getD i (.Pass ⟨0, 0, 0, 0⟩)
abbrev s_is_whole : Stmt := topS 2
abbrev N_is_whole : List Str := ["value"]
abbrev p_is_whole : List Str := ["value"]
theorem sc_is_whole : FnScope N_is_whole p_is_whole (defScope s_is_whole) := ⟨rfl, rfl, rfl, by decide +kernel, rfl, by decide +kernel, by decide +kernel⟩
abbrev s_is_fraction : Stmt := topS 3
abbrev N_is_fraction : List Str := ["value", "top", "bottom"]
abbrev p_is_fraction : List Str := ["value"]
theorem sc_is_fraction : FnScope N_is_fraction p_is_fraction (defScope s_is_fraction) := ⟨rfl, rfl, rfl, by decide +kernel, rfl, by decide +kernel, by decide +kernel⟩
abbrev s_lowest : Stmt := topS 4
abbrev N_lowest : List Str := ["top", "bottom", "shared"]
abbrev p_lowest : List Str := ["top", "bottom"]
theorem sc_lowest : FnScope N_lowest p_lowest (defScope s_lowest) := ⟨rfl, rfl, rfl, by decide +kernel, rfl, by decide +kernel, by decide +kernel⟩
abbrev s_inverse_modulo : Stmt := topS 5
abbrev N_inverse_modulo : List Str := ["number", "modulus", "above", "below", "above_times", "below_times", "times", "rest"]
abbrev p_inverse_modulo : List Str := ["number", "modulus"]
theorem sc_inverse_modulo : FnScope N_inverse_modulo p_inverse_modulo (defScope s_inverse_modulo) := ⟨rfl, rfl, rfl, by decide +kernel, rfl, by decide +kernel, by decide +kernel⟩
abbrev s_trimmed : Stmt := topS 7
abbrev N_trimmed : List Str := ["numbers", "size"]
abbrev p_trimmed : List Str := ["numbers"]
theorem sc_trimmed : FnScope N_trimmed p_trimmed (defScope s_trimmed) := ⟨rfl, rfl, rfl, by decide +kernel, rfl, by decide +kernel, by decide +kernel⟩
abbrev s_blend : Stmt := topS 8
abbrev N_blend : List Str := ["first", "times", "second", "other_times", "number", "sums", "place"]
abbrev p_blend : List Str := ["first", "times", "second", "other_times"]
theorem sc_blend : FnScope N_blend p_blend (defScope s_blend) := ⟨rfl, rfl, rfl, by decide +kernel, rfl, by decide +kernel, by decide +kernel⟩
abbrev s_content : Stmt := topS 9
abbrev N_content : List Str := ["polynomial", "shared", "number"]
abbrev p_content : List Str := ["polynomial"]
theorem sc_content : FnScope N_content p_content (defScope s_content) := ⟨rfl, rfl, rfl, by decide +kernel, rfl, by decide +kernel, by decide +kernel⟩
abbrev s_shrunk : Stmt := topS 10
abbrev N_shrunk : List Str := ["polynomial", "divisor", "number"]
abbrev p_shrunk : List Str := ["polynomial", "divisor"]
theorem sc_shrunk : FnScope N_shrunk p_shrunk (defScope s_shrunk) := ⟨rfl, rfl, rfl, by decide +kernel, rfl, by decide +kernel, by decide +kernel⟩
abbrev s_thinned : Stmt := topS 11
abbrev N_thinned : List Str := ["polynomial"]
abbrev p_thinned : List Str := ["polynomial"]
theorem sc_thinned : FnScope N_thinned p_thinned (defScope s_thinned) := ⟨rfl, rfl, rfl, by decide +kernel, rfl, by decide +kernel, by decide +kernel⟩
abbrev s_reduced : Stmt := topS 12
abbrev N_reduced : List Str := ["polynomial", "shared"]
abbrev p_reduced : List Str := ["polynomial"]
theorem sc_reduced : FnScope N_reduced p_reduced (defScope s_reduced) := ⟨rfl, rfl, rfl, by decide +kernel, rfl, by decide +kernel, by decide +kernel⟩
abbrev s_whole_quotient : Stmt := topS 13
abbrev N_whole_quotient : List Str := ["polynomial", "divisor", "rests", "lead", "degree", "quotient", "place", "times", "left", "step", "number"]
abbrev p_whole_quotient : List Str := ["polynomial", "divisor"]
theorem sc_whole_quotient : FnScope N_whole_quotient p_whole_quotient (defScope s_whole_quotient) := ⟨rfl, rfl, rfl, by decide +kernel, rfl, by decide +kernel, by decide +kernel⟩
abbrev s_scaled_value : Stmt := topS 14
abbrev N_scaled_value : List Str := ["polynomial", "top", "bottom", "value", "scale", "number"]
abbrev p_scaled_value : List Str := ["polynomial", "top", "bottom"]
theorem sc_scaled_value : FnScope N_scaled_value p_scaled_value (defScope s_scaled_value) := ⟨rfl, rfl, rfl, by decide +kernel, rfl, by decide +kernel, by decide +kernel⟩
abbrev s_fraction_value : Stmt := topS 15
abbrev N_fraction_value : List Str := ["polynomial", "fraction", "scale", "_"]
abbrev p_fraction_value : List Str := ["polynomial", "fraction"]
theorem sc_fraction_value : FnScope N_fraction_value p_fraction_value (defScope s_fraction_value) := ⟨rfl, rfl, rfl, by decide +kernel, rfl, by decide +kernel, by decide +kernel⟩
abbrev s_rest_modulo : Stmt := topS 18
abbrev N_rest_modulo : List Str := ["polynomial", "divisor", "modulus", "rests", "lead", "size", "times", "start", "step", "number"]
abbrev p_rest_modulo : List Str := ["polynomial", "divisor", "modulus"]
theorem sc_rest_modulo : FnScope N_rest_modulo p_rest_modulo (defScope s_rest_modulo) := ⟨rfl, rfl, rfl, by decide +kernel, rfl, by decide +kernel, by decide +kernel⟩
abbrev s_divisor_modulo : Stmt := topS 19
abbrev N_divisor_modulo : List Str := ["first", "second", "modulus", "above", "below", "number"]
abbrev p_divisor_modulo : List Str := ["first", "second", "modulus"]
theorem sc_divisor_modulo : FnScope N_divisor_modulo p_divisor_modulo (defScope s_divisor_modulo) := ⟨rfl, rfl, rfl, by decide +kernel, rfl, by decide +kernel, by decide +kernel⟩
abbrev s_guessed_divisor : Stmt := topS 20
abbrev N_guessed_divisor : List Str := ["first", "second", "modulus", "found", "lead", "times", "centred", "number", "guess"]
abbrev p_guessed_divisor : List Str := ["first", "second", "modulus"]
theorem sc_guessed_divisor : FnScope N_guessed_divisor p_guessed_divisor (defScope s_guessed_divisor) := ⟨rfl, rfl, rfl, by decide +kernel, rfl, by decide +kernel, by decide +kernel⟩
abbrev s_divisor_by_rests : Stmt := topS 21
abbrev N_divisor_by_rests : List Str := ["first", "second", "rest", "shifted"]
abbrev p_divisor_by_rests : List Str := ["first", "second"]
theorem sc_divisor_by_rests : FnScope N_divisor_by_rests p_divisor_by_rests (defScope s_divisor_by_rests) := ⟨rfl, rfl, rfl, by decide +kernel, rfl, by decide +kernel, by decide +kernel⟩
abbrev s_divisor_of_both : Stmt := topS 22
abbrev N_divisor_of_both : List Str := ["first", "second", "bits", "found"]
abbrev p_divisor_of_both : List Str := ["first", "second"]
theorem sc_divisor_of_both : FnScope N_divisor_of_both p_divisor_of_both (defScope s_divisor_of_both) := ⟨rfl, rfl, rfl, by decide +kernel, rfl, by decide +kernel, by decide +kernel⟩
abbrev s_is_polynomial : Stmt := topS 29
abbrev N_is_polynomial : List Str := ["value", "number"]
abbrev p_is_polynomial : List Str := ["value"]
theorem sc_is_polynomial : FnScope N_is_polynomial p_is_polynomial (defScope s_is_polynomial) := ⟨rfl, rfl, rfl, by decide +kernel, rfl, by decide +kernel, by decide +kernel⟩
abbrev s_check_polynomial : Stmt := topS 30
abbrev N_check_polynomial : List Str := ["given"]
abbrev p_check_polynomial : List Str := ["given"]
theorem sc_check_polynomial : FnScope N_check_polynomial p_check_polynomial (defScope s_check_polynomial) := ⟨rfl, rfl, rfl, by decide +kernel, rfl, by decide +kernel, by decide +kernel⟩
abbrev s_check_fraction : Stmt := topS 31
abbrev N_check_fraction : List Str := ["given"]
abbrev p_check_fraction : List Str := ["given"]
theorem sc_check_fraction : FnScope N_check_fraction p_check_fraction (defScope s_check_fraction) := ⟨rfl, rfl, rfl, by decide +kernel, rfl, by decide +kernel, by decide +kernel⟩
abbrev s_value_at : Stmt := topS 32
abbrev N_value_at : List Str := ["polynomial", "fraction"]
abbrev p_value_at : List Str := ["polynomial", "fraction"]
theorem sc_value_at : FnScope N_value_at p_value_at (defScope s_value_at) := ⟨rfl, rfl, rfl, by decide +kernel, rfl, by decide +kernel, by decide +kernel⟩
abbrev s_common_divisor : Stmt := topS 33
abbrev N_common_divisor : List Str := ["polynomial", "other"]
abbrev p_common_divisor : List Str := ["polynomial", "other"]
theorem sc_common_divisor : FnScope N_common_divisor p_common_divisor (defScope s_common_divisor) := ⟨rfl, rfl, rfl, by decide +kernel, rfl, by decide +kernel, by decide +kernel⟩
abbrev s__law_well : Stmt := topS 35
abbrev N__law_well : List Str := ["_law_script", "_law_at", "_law_own", "_law_mixed", "_law_each"]
abbrev p__law_well : List Str := ["_law_script", "_law_at"]
theorem sc__law_well : FnScope N__law_well p__law_well (defScope s__law_well) := ⟨rfl, rfl, rfl, by decide +kernel, rfl, by decide +kernel, by decide +kernel⟩
abbrev s__law_pull : Stmt := topS 36
abbrev N__law_pull : List Str := ["_law_well_here", "_law_many2", "_law_digit", "_law_factor2"]
abbrev p__law_pull : List Str := ["_law_well_here", "_law_many2"]
theorem sc__law_pull : FnScope N__law_pull p__law_pull (defScope s__law_pull) := ⟨rfl, rfl, rfl, by decide +kernel, rfl, by decide +kernel, by decide +kernel⟩
abbrev s__law_one : Stmt := topS 37
abbrev N__law_one : List Str := ["_law_well_here", "_law_some"]
abbrev p__law_one : List Str := ["_law_well_here", "_law_some"]
theorem sc__law_one : FnScope N__law_one p__law_one (defScope s__law_one) := ⟨rfl, rfl, rfl, by decide +kernel, rfl, by decide +kernel, by decide +kernel⟩
abbrev s__law_gcd : Stmt := topS 38
abbrev N__law_gcd : List Str := ["_law_one_here", "_law_two"]
abbrev p__law_gcd : List Str := ["_law_one_here", "_law_two"]
theorem sc__law_gcd : FnScope N__law_gcd p__law_gcd (defScope s__law_gcd) := ⟨rfl, rfl, rfl, by decide +kernel, rfl, by decide +kernel, by decide +kernel⟩
abbrev s__law_cut : Stmt := topS 39
abbrev N__law_cut : List Str := ["_law_n", "_law_m", "_law_deep"]
abbrev p__law_cut : List Str := ["_law_n", "_law_m"]
theorem sc__law_cut : FnScope N__law_cut p__law_cut (defScope s__law_cut) := ⟨rfl, rfl, rfl, by decide +kernel, rfl, by decide +kernel, by decide +kernel⟩
abbrev s__law_add : Stmt := topS 40
abbrev N__law_add : List Str := ["_law_x", "_law_y"]
abbrev p__law_add : List Str := ["_law_x", "_law_y"]
theorem sc__law_add : FnScope N__law_add p__law_add (defScope s__law_add) := ⟨rfl, rfl, rfl, by decide +kernel, rfl, by decide +kernel, by decide +kernel⟩
abbrev s__law_by : Stmt := topS 41
abbrev N__law_by : List Str := ["_law_x", "_law_y"]
abbrev p__law_by : List Str := ["_law_x", "_law_y"]
theorem sc__law_by : FnScope N__law_by p__law_by (defScope s__law_by) := ⟨rfl, rfl, rfl, by decide +kernel, rfl, by decide +kernel, by decide +kernel⟩
abbrev s__law_amount : Stmt := topS 42
abbrev N__law_amount : List Str := ["_law_well_here", "_law_top", "_law_under"]
abbrev p__law_amount : List Str := ["_law_well_here"]
theorem sc__law_amount : FnScope N__law_amount p__law_amount (defScope s__law_amount) := ⟨rfl, rfl, rfl, by decide +kernel, rfl, by decide +kernel, by decide +kernel⟩
abbrev s__law_any_fraction : Stmt := topS 43
abbrev N__law_any_fraction : List Str := ["_law_well_here", "_law_x", "_law_way"]
abbrev p__law_any_fraction : List Str := ["_law_well_here"]
theorem sc__law_any_fraction : FnScope N__law_any_fraction p__law_any_fraction (defScope s__law_any_fraction) := ⟨rfl, rfl, rfl, by decide +kernel, rfl, by decide +kernel, by decide +kernel⟩
abbrev s__law_trim : Stmt := topS 44
abbrev N__law_trim : List Str := ["_law_numbers", "_law_found"]
abbrev p__law_trim : List Str := ["_law_numbers"]
theorem sc__law_trim : FnScope N__law_trim p__law_trim (defScope s__law_trim) := ⟨rfl, rfl, rfl, by decide +kernel, rfl, by decide +kernel, by decide +kernel⟩
abbrev s__law_product : Stmt := topS 45
abbrev N__law_product : List Str := ["_law_one_here", "_law_two", "_law_found", "_law_k", "_law_n"]
abbrev p__law_product : List Str := ["_law_one_here", "_law_two"]
theorem sc__law_product : FnScope N__law_product p__law_product (defScope s__law_product) := ⟨rfl, rfl, rfl, by decide +kernel, rfl, by decide +kernel, by decide +kernel⟩
abbrev s__law_light : Stmt := topS 46
abbrev N__law_light : List Str := ["_law_row", "_law_deep", "_law_each"]
abbrev p__law_light : List Str := ["_law_row"]
theorem sc__law_light : FnScope N__law_light p__law_light (defScope s__law_light) := ⟨rfl, rfl, rfl, by decide +kernel, rfl, by decide +kernel, by decide +kernel⟩
abbrev s__law_upright : Stmt := topS 47
abbrev N__law_upright : List Str := ["_law_row", "_law_found", "_law_each"]
abbrev p__law_upright : List Str := ["_law_row"]
theorem sc__law_upright : FnScope N__law_upright p__law_upright (defScope s__law_upright) := ⟨rfl, rfl, rfl, by decide +kernel, rfl, by decide +kernel, by decide +kernel⟩
abbrev s__law_roots_built : Stmt := topS 48
abbrev N__law_roots_built : List Str := ["_law_well_here", "_law_most2", "_law_often", "_law_found", "_law_seen2", "_law_turn", "_law_x", "_law_way", "_law_root", "_law_factor2"]
abbrev p__law_roots_built : List Str := ["_law_well_here", "_law_most2", "_law_often"]
theorem sc__law_roots_built : FnScope N__law_roots_built p__law_roots_built (defScope s__law_roots_built) := ⟨rfl, rfl, rfl, by decide +kernel, rfl, by decide +kernel, by decide +kernel⟩
abbrev s__law_built : Stmt := topS 49
abbrev N__law_built : List Str := ["_law_factors2", "_law_by_here", "_law_row", "_law_factor2", "_law_times2", "_law_turn"]
abbrev p__law_built : List Str := ["_law_factors2", "_law_by_here"]
theorem sc__law_built : FnScope N__law_built p__law_built (defScope s__law_built) := ⟨rfl, rfl, rfl, by decide +kernel, rfl, by decide +kernel, by decide +kernel⟩
abbrev s__law_value : Stmt := topS 50
abbrev N__law_value : List Str := ["_law_row", "_law_x", "_law_found", "_law_power", "_law_each"]
abbrev p__law_value : List Str := ["_law_row", "_law_x"]
theorem sc__law_value : FnScope N__law_value p__law_value (defScope s__law_value) := ⟨rfl, rfl, rfl, by decide +kernel, rfl, by decide +kernel, by decide +kernel⟩
abbrev s__law_bent : Stmt := topS 51
abbrev N__law_bent : List Str := ["_law_well_here", "_law_row", "_law_some"]
abbrev p__law_bent : List Str := ["_law_well_here", "_law_row"]
theorem sc__law_bent : FnScope N__law_bent p__law_bent (defScope s__law_bent) := ⟨rfl, rfl, rfl, by decide +kernel, rfl, by decide +kernel, by decide +kernel⟩
abbrev s__law_right : Stmt := topS 52
abbrev N__law_right : List Str := ["_law_well_here", "_law_both", "_law_own", "_law_other2", "_law_by_here", "_law_many2", "_law_one_here", "_law_more2", "_law_two", "_law_due", "_law_told", "_law_full", "_law_row", "_law_x", "_law_each"]
abbrev p__law_right : List Str := ["_law_well_here"]
theorem sc__law_right : FnScope N__law_right p__law_right (defScope s__law_right) := ⟨rfl, rfl, rfl, by decide +kernel, rfl, by decide +kernel, by decide +kernel⟩
abbrev s_law : Stmt := topS 53
abbrev N_law : List Str := ["_law_script", "_law_turn"]
abbrev p_law : List Str := ["_law_script"]
theorem sc_law : FnScope N_law p_law (defScope s_law) := ⟨rfl, rfl, rfl, by decide +kernel, rfl, by decide +kernel, by decide +kernel⟩
def sx__law_right_0 : Scope := { kind := .function, names := [(Str.ofString ".0", .local), (Str.ofString "_law_each", .local), (Str.ofString "_law_both", .cell)], isGenerator := false, isCoroutine := false, more := [] }
def sx__law_right_2 : Scope := { kind := .function, names := [(Str.ofString ".0", .local), (Str.ofString "_law_each", .local), (Str.ofString "_law_both", .cell), (Str.ofString "_law_own", .cell)], isGenerator := false, isCoroutine := false, more := [] }
set_option genSizeOf false in
set_option genInjectivity false in
structure Tx (K : PySem.W.Frag) (mg : Str → Option Value) where
  a_is_whole : Addr
  d_is_whole : FuncData
  F_is_whole : Fun K "is_whole" "is_whole" s_is_whole a_is_whole d_is_whole
  g_is_whole : mg "is_whole" = some (.ref a_is_whole)
  a_is_fraction : Addr
  d_is_fraction : FuncData
  F_is_fraction : Fun K "is_fraction" "is_fraction" s_is_fraction a_is_fraction d_is_fraction
  g_is_fraction : mg "is_fraction" = some (.ref a_is_fraction)
  a_lowest : Addr
  d_lowest : FuncData
  F_lowest : Fun K "lowest" "lowest" s_lowest a_lowest d_lowest
  g_lowest : mg "lowest" = some (.ref a_lowest)
  a_inverse_modulo : Addr
  d_inverse_modulo : FuncData
  F_inverse_modulo : Fun K "inverse_modulo" "inverse_modulo" s_inverse_modulo a_inverse_modulo d_inverse_modulo
  g_inverse_modulo : mg "inverse_modulo" = some (.ref a_inverse_modulo)
  a_trimmed : Addr
  d_trimmed : FuncData
  F_trimmed : Fun K "trimmed" "trimmed" s_trimmed a_trimmed d_trimmed
  g_trimmed : mg "trimmed" = some (.ref a_trimmed)
  a_blend : Addr
  d_blend : FuncData
  F_blend : Fun K "blend" "blend" s_blend a_blend d_blend
  g_blend : mg "blend" = some (.ref a_blend)
  a_content : Addr
  d_content : FuncData
  F_content : Fun K "content" "content" s_content a_content d_content
  g_content : mg "content" = some (.ref a_content)
  a_shrunk : Addr
  d_shrunk : FuncData
  F_shrunk : Fun K "shrunk" "shrunk" s_shrunk a_shrunk d_shrunk
  g_shrunk : mg "shrunk" = some (.ref a_shrunk)
  a_thinned : Addr
  d_thinned : FuncData
  F_thinned : Fun K "thinned" "thinned" s_thinned a_thinned d_thinned
  g_thinned : mg "thinned" = some (.ref a_thinned)
  a_reduced : Addr
  d_reduced : FuncData
  F_reduced : Fun K "reduced" "reduced" s_reduced a_reduced d_reduced
  g_reduced : mg "reduced" = some (.ref a_reduced)
  a_whole_quotient : Addr
  d_whole_quotient : FuncData
  F_whole_quotient : Fun K "whole_quotient" "whole_quotient" s_whole_quotient a_whole_quotient d_whole_quotient
  g_whole_quotient : mg "whole_quotient" = some (.ref a_whole_quotient)
  a_scaled_value : Addr
  d_scaled_value : FuncData
  F_scaled_value : Fun K "scaled_value" "scaled_value" s_scaled_value a_scaled_value d_scaled_value
  g_scaled_value : mg "scaled_value" = some (.ref a_scaled_value)
  a_fraction_value : Addr
  d_fraction_value : FuncData
  F_fraction_value : Fun K "fraction_value" "fraction_value" s_fraction_value a_fraction_value d_fraction_value
  g_fraction_value : mg "fraction_value" = some (.ref a_fraction_value)
  a_rest_modulo : Addr
  d_rest_modulo : FuncData
  F_rest_modulo : Fun K "rest_modulo" "rest_modulo" s_rest_modulo a_rest_modulo d_rest_modulo
  g_rest_modulo : mg "rest_modulo" = some (.ref a_rest_modulo)
  a_divisor_modulo : Addr
  d_divisor_modulo : FuncData
  F_divisor_modulo : Fun K "divisor_modulo" "divisor_modulo" s_divisor_modulo a_divisor_modulo d_divisor_modulo
  g_divisor_modulo : mg "divisor_modulo" = some (.ref a_divisor_modulo)
  a_guessed_divisor : Addr
  d_guessed_divisor : FuncData
  F_guessed_divisor : Fun K "guessed_divisor" "guessed_divisor" s_guessed_divisor a_guessed_divisor d_guessed_divisor
  g_guessed_divisor : mg "guessed_divisor" = some (.ref a_guessed_divisor)
  a_divisor_by_rests : Addr
  d_divisor_by_rests : FuncData
  F_divisor_by_rests : Fun K "divisor_by_rests" "divisor_by_rests" s_divisor_by_rests a_divisor_by_rests d_divisor_by_rests
  g_divisor_by_rests : mg "divisor_by_rests" = some (.ref a_divisor_by_rests)
  a_divisor_of_both : Addr
  d_divisor_of_both : FuncData
  F_divisor_of_both : Fun K "divisor_of_both" "divisor_of_both" s_divisor_of_both a_divisor_of_both d_divisor_of_both
  g_divisor_of_both : mg "divisor_of_both" = some (.ref a_divisor_of_both)
  a_is_polynomial : Addr
  d_is_polynomial : FuncData
  F_is_polynomial : Fun K "is_polynomial" "is_polynomial" s_is_polynomial a_is_polynomial d_is_polynomial
  g_is_polynomial : mg "is_polynomial" = some (.ref a_is_polynomial)
  a_check_polynomial : Addr
  d_check_polynomial : FuncData
  F_check_polynomial : Fun K "check_polynomial" "check_polynomial" s_check_polynomial a_check_polynomial d_check_polynomial
  g_check_polynomial : mg "check_polynomial" = some (.ref a_check_polynomial)
  a_check_fraction : Addr
  d_check_fraction : FuncData
  F_check_fraction : Fun K "check_fraction" "check_fraction" s_check_fraction a_check_fraction d_check_fraction
  g_check_fraction : mg "check_fraction" = some (.ref a_check_fraction)
  a_value_at : Addr
  d_value_at : FuncData
  F_value_at : Fun K "value_at" "value_at" s_value_at a_value_at d_value_at
  g_value_at : mg "value_at" = some (.ref a_value_at)
  a_common_divisor : Addr
  d_common_divisor : FuncData
  F_common_divisor : Fun K "common_divisor" "common_divisor" s_common_divisor a_common_divisor d_common_divisor
  g_common_divisor : mg "common_divisor" = some (.ref a_common_divisor)
  a__law_well : Addr
  d__law_well : FuncData
  F__law_well : Fun K "_law_well" "_law_well" s__law_well a__law_well d__law_well
  g__law_well : mg "_law_well" = some (.ref a__law_well)
  a__law_pull : Addr
  d__law_pull : FuncData
  F__law_pull : Fun K "_law_pull" "_law_pull" s__law_pull a__law_pull d__law_pull
  g__law_pull : mg "_law_pull" = some (.ref a__law_pull)
  a__law_one : Addr
  d__law_one : FuncData
  F__law_one : Fun K "_law_one" "_law_one" s__law_one a__law_one d__law_one
  g__law_one : mg "_law_one" = some (.ref a__law_one)
  a__law_gcd : Addr
  d__law_gcd : FuncData
  F__law_gcd : Fun K "_law_gcd" "_law_gcd" s__law_gcd a__law_gcd d__law_gcd
  g__law_gcd : mg "_law_gcd" = some (.ref a__law_gcd)
  a__law_cut : Addr
  d__law_cut : FuncData
  F__law_cut : Fun K "_law_cut" "_law_cut" s__law_cut a__law_cut d__law_cut
  g__law_cut : mg "_law_cut" = some (.ref a__law_cut)
  a__law_add : Addr
  d__law_add : FuncData
  F__law_add : Fun K "_law_add" "_law_add" s__law_add a__law_add d__law_add
  g__law_add : mg "_law_add" = some (.ref a__law_add)
  a__law_by : Addr
  d__law_by : FuncData
  F__law_by : Fun K "_law_by" "_law_by" s__law_by a__law_by d__law_by
  g__law_by : mg "_law_by" = some (.ref a__law_by)
  a__law_amount : Addr
  d__law_amount : FuncData
  F__law_amount : Fun K "_law_amount" "_law_amount" s__law_amount a__law_amount d__law_amount
  g__law_amount : mg "_law_amount" = some (.ref a__law_amount)
  a__law_any_fraction : Addr
  d__law_any_fraction : FuncData
  F__law_any_fraction : Fun K "_law_any_fraction" "_law_any_fraction" s__law_any_fraction a__law_any_fraction d__law_any_fraction
  g__law_any_fraction : mg "_law_any_fraction" = some (.ref a__law_any_fraction)
  a__law_trim : Addr
  d__law_trim : FuncData
  F__law_trim : Fun K "_law_trim" "_law_trim" s__law_trim a__law_trim d__law_trim
  g__law_trim : mg "_law_trim" = some (.ref a__law_trim)
  a__law_product : Addr
  d__law_product : FuncData
  F__law_product : Fun K "_law_product" "_law_product" s__law_product a__law_product d__law_product
  g__law_product : mg "_law_product" = some (.ref a__law_product)
  a__law_light : Addr
  d__law_light : FuncData
  F__law_light : Fun K "_law_light" "_law_light" s__law_light a__law_light d__law_light
  g__law_light : mg "_law_light" = some (.ref a__law_light)
  a__law_upright : Addr
  d__law_upright : FuncData
  F__law_upright : Fun K "_law_upright" "_law_upright" s__law_upright a__law_upright d__law_upright
  g__law_upright : mg "_law_upright" = some (.ref a__law_upright)
  a__law_roots_built : Addr
  d__law_roots_built : FuncData
  F__law_roots_built : Fun K "_law_roots_built" "_law_roots_built" s__law_roots_built a__law_roots_built d__law_roots_built
  g__law_roots_built : mg "_law_roots_built" = some (.ref a__law_roots_built)
  a__law_built : Addr
  d__law_built : FuncData
  F__law_built : Fun K "_law_built" "_law_built" s__law_built a__law_built d__law_built
  g__law_built : mg "_law_built" = some (.ref a__law_built)
  a__law_value : Addr
  d__law_value : FuncData
  F__law_value : Fun K "_law_value" "_law_value" s__law_value a__law_value d__law_value
  g__law_value : mg "_law_value" = some (.ref a__law_value)
  a__law_bent : Addr
  d__law_bent : FuncData
  F__law_bent : Fun K "_law_bent" "_law_bent" s__law_bent a__law_bent d__law_bent
  g__law_bent : mg "_law_bent" = some (.ref a__law_bent)
  a__law_right : Addr
  d__law_right : FuncData
  F__law_right : Fun K "_law_right" "_law_right" s__law_right a__law_right d__law_right
  g__law_right : mg "_law_right" = some (.ref a__law_right)
  a_law : Addr
  d_law : FuncData
  F_law : Fun K "law" "law" s_law a_law d_law
  g_law : mg "law" = some (.ref a_law)
  k_PRIME_BITS : Addr
  c_PRIME_BITS : mg "PRIME_BITS" = some (.ref k_PRIME_BITS)
  v_PRIME_BITS : CT K k_PRIME_BITS (.tuple [.int 127, .int 521, .int 1279, .int 2203, .int 4253, .int 9689, .int 19937, .int 44497])
  n_abs : mg "abs" = none
  n_all : mg "all" = none
  n_any : mg "any" = none
  n_bool : mg "bool" = none
  n_divmod : mg "divmod" = none
  n_enumerate : mg "enumerate" = none
  l_gcd : mg "gcd" = some (.builtin "math.gcd")
  n_int : mg "int" = none
  n_isinstance : mg "isinstance" = none
  n_len : mg "len" = none
  n_list : mg "list" = none
  n_range : mg "range" = none
  n_repr : mg "repr" = none
  n_reversed : mg "reversed" = none
  n_sum : mg "sum" = none
  n_tuple : mg "tuple" = none
section
variable {P : Program} {w : World} {K : PySem.W.Frag} {mg : Str → Option Value} {base : Heap}
theorem b_is_whole (T : Tx K mg) : Binds K T.d_is_whole p_is_whole [] := T.F_is_whole.binds (ps := p_is_whole) fun _ _ _ _ _ _ us hl => match us, hl with | [_], _ => rfl
theorem b_is_fraction (T : Tx K mg) : Binds K T.d_is_fraction p_is_fraction [] := T.F_is_fraction.binds (ps := p_is_fraction) fun _ _ _ _ _ _ us hl => match us, hl with | [_], _ => rfl
theorem b_lowest (T : Tx K mg) : Binds K T.d_lowest p_lowest [] := T.F_lowest.binds (ps := p_lowest) fun _ _ _ _ _ _ us hl => match us, hl with | [_, _], _ => rfl
theorem b_inverse_modulo (T : Tx K mg) : Binds K T.d_inverse_modulo p_inverse_modulo [] := T.F_inverse_modulo.binds (ps := p_inverse_modulo) fun _ _ _ _ _ _ us hl => match us, hl with | [_, _], _ => rfl
theorem b_trimmed (T : Tx K mg) : Binds K T.d_trimmed p_trimmed [] := T.F_trimmed.binds (ps := p_trimmed) fun _ _ _ _ _ _ us hl => match us, hl with | [_], _ => rfl
theorem b_blend (T : Tx K mg) : Binds K T.d_blend p_blend [] := T.F_blend.binds (ps := p_blend) fun _ _ _ _ _ _ us hl => match us, hl with | [_, _, _, _], _ => rfl
theorem b_content (T : Tx K mg) : Binds K T.d_content p_content [] := T.F_content.binds (ps := p_content) fun _ _ _ _ _ _ us hl => match us, hl with | [_], _ => rfl
theorem b_shrunk (T : Tx K mg) : Binds K T.d_shrunk p_shrunk [] := T.F_shrunk.binds (ps := p_shrunk) fun _ _ _ _ _ _ us hl => match us, hl with | [_, _], _ => rfl
theorem b_thinned (T : Tx K mg) : Binds K T.d_thinned p_thinned [] := T.F_thinned.binds (ps := p_thinned) fun _ _ _ _ _ _ us hl => match us, hl with | [_], _ => rfl
theorem b_reduced (T : Tx K mg) : Binds K T.d_reduced p_reduced [] := T.F_reduced.binds (ps := p_reduced) fun _ _ _ _ _ _ us hl => match us, hl with | [_], _ => rfl
theorem b_whole_quotient (T : Tx K mg) : Binds K T.d_whole_quotient p_whole_quotient [] := T.F_whole_quotient.binds (ps := p_whole_quotient) fun _ _ _ _ _ _ us hl => match us, hl with | [_, _], _ => rfl
theorem b_scaled_value (T : Tx K mg) : Binds K T.d_scaled_value p_scaled_value [] := T.F_scaled_value.binds (ps := p_scaled_value) fun _ _ _ _ _ _ us hl => match us, hl with | [_, _, _], _ => rfl
theorem b_fraction_value (T : Tx K mg) : Binds K T.d_fraction_value p_fraction_value [] := T.F_fraction_value.binds (ps := p_fraction_value) fun _ _ _ _ _ _ us hl => match us, hl with | [_, _], _ => rfl
theorem b_rest_modulo (T : Tx K mg) : Binds K T.d_rest_modulo p_rest_modulo [] := T.F_rest_modulo.binds (ps := p_rest_modulo) fun _ _ _ _ _ _ us hl => match us, hl with | [_, _, _], _ => rfl
theorem b_divisor_modulo (T : Tx K mg) : Binds K T.d_divisor_modulo p_divisor_modulo [] := T.F_divisor_modulo.binds (ps := p_divisor_modulo) fun _ _ _ _ _ _ us hl => match us, hl with | [_, _, _], _ => rfl
theorem b_guessed_divisor (T : Tx K mg) : Binds K T.d_guessed_divisor p_guessed_divisor [] := T.F_guessed_divisor.binds (ps := p_guessed_divisor) fun _ _ _ _ _ _ us hl => match us, hl with | [_, _, _], _ => rfl
theorem b_divisor_by_rests (T : Tx K mg) : Binds K T.d_divisor_by_rests p_divisor_by_rests [] := T.F_divisor_by_rests.binds (ps := p_divisor_by_rests) fun _ _ _ _ _ _ us hl => match us, hl with | [_, _], _ => rfl
theorem b_divisor_of_both (T : Tx K mg) : Binds K T.d_divisor_of_both p_divisor_of_both [] := T.F_divisor_of_both.binds (ps := p_divisor_of_both) fun _ _ _ _ _ _ us hl => match us, hl with | [_, _], _ => rfl
theorem b_is_polynomial (T : Tx K mg) : Binds K T.d_is_polynomial p_is_polynomial [] := T.F_is_polynomial.binds (ps := p_is_polynomial) fun _ _ _ _ _ _ us hl => match us, hl with | [_], _ => rfl
theorem kb_is_polynomial (T : Tx K mg) : KBinds K T.d_is_polynomial p_is_polynomial p_is_polynomial gK gKV := Fun.kbinds T.F_is_polynomial (by decide) fun _ _ _ _ _ _ us hl => match us, hl with | [_], _ => rfl
theorem b_check_polynomial (T : Tx K mg) : Binds K T.d_check_polynomial p_check_polynomial [] := T.F_check_polynomial.binds (ps := p_check_polynomial) fun _ _ _ _ _ _ us hl => match us, hl with | [_], _ => rfl
theorem b_check_fraction (T : Tx K mg) : Binds K T.d_check_fraction p_check_fraction [] := T.F_check_fraction.binds (ps := p_check_fraction) fun _ _ _ _ _ _ us hl => match us, hl with | [_], _ => rfl
theorem b_value_at (T : Tx K mg) : Binds K T.d_value_at p_value_at [] := T.F_value_at.binds (ps := p_value_at) fun _ _ _ _ _ _ us hl => match us, hl with | [_, _], _ => rfl
theorem kb_value_at (T : Tx K mg) : KBinds K T.d_value_at p_value_at p_value_at gK gKV := Fun.kbinds T.F_value_at (by decide) fun _ _ _ _ _ _ us hl => match us, hl with | [_, _], _ => rfl
theorem b_common_divisor (T : Tx K mg) : Binds K T.d_common_divisor p_common_divisor [] := T.F_common_divisor.binds (ps := p_common_divisor) fun _ _ _ _ _ _ us hl => match us, hl with | [_, _], _ => rfl
theorem kb_common_divisor (T : Tx K mg) : KBinds K T.d_common_divisor p_common_divisor p_common_divisor gK gKV := Fun.kbinds T.F_common_divisor (by decide) fun _ _ _ _ _ _ us hl => match us, hl with | [_, _], _ => rfl
theorem b__law_well (T : Tx K mg) : Binds K T.d__law_well p__law_well [] := T.F__law_well.binds (ps := p__law_well) fun _ _ _ _ _ _ us hl => match us, hl with | [_, _], _ => rfl
theorem b__law_pull (T : Tx K mg) : Binds K T.d__law_pull p__law_pull [] := T.F__law_pull.binds (ps := p__law_pull) fun _ _ _ _ _ _ us hl => match us, hl with | [_, _], _ => rfl
theorem b__law_one (T : Tx K mg) : Binds K T.d__law_one p__law_one [] := T.F__law_one.binds (ps := p__law_one) fun _ _ _ _ _ _ us hl => match us, hl with | [_, _], _ => rfl
theorem b__law_gcd (T : Tx K mg) : Binds K T.d__law_gcd p__law_gcd [] := T.F__law_gcd.binds (ps := p__law_gcd) fun _ _ _ _ _ _ us hl => match us, hl with | [_, _], _ => rfl
theorem b__law_cut (T : Tx K mg) : Binds K T.d__law_cut p__law_cut [] := T.F__law_cut.binds (ps := p__law_cut) fun _ _ _ _ _ _ us hl => match us, hl with | [_, _], _ => rfl
theorem b__law_add (T : Tx K mg) : Binds K T.d__law_add p__law_add [] := T.F__law_add.binds (ps := p__law_add) fun _ _ _ _ _ _ us hl => match us, hl with | [_, _], _ => rfl
theorem b__law_by (T : Tx K mg) : Binds K T.d__law_by p__law_by [] := T.F__law_by.binds (ps := p__law_by) fun _ _ _ _ _ _ us hl => match us, hl with | [_, _], _ => rfl
theorem b__law_amount (T : Tx K mg) : Binds K T.d__law_amount p__law_amount [] := T.F__law_amount.binds (ps := p__law_amount) fun _ _ _ _ _ _ us hl => match us, hl with | [_], _ => rfl
theorem b__law_any_fraction (T : Tx K mg) : Binds K T.d__law_any_fraction p__law_any_fraction [] := T.F__law_any_fraction.binds (ps := p__law_any_fraction) fun _ _ _ _ _ _ us hl => match us, hl with | [_], _ => rfl
theorem b__law_trim (T : Tx K mg) : Binds K T.d__law_trim p__law_trim [] := T.F__law_trim.binds (ps := p__law_trim) fun _ _ _ _ _ _ us hl => match us, hl with | [_], _ => rfl
theorem b__law_product (T : Tx K mg) : Binds K T.d__law_product p__law_product [] := T.F__law_product.binds (ps := p__law_product) fun _ _ _ _ _ _ us hl => match us, hl with | [_, _], _ => rfl
theorem b__law_light (T : Tx K mg) : Binds K T.d__law_light p__law_light [] := T.F__law_light.binds (ps := p__law_light) fun _ _ _ _ _ _ us hl => match us, hl with | [_], _ => rfl
theorem b__law_upright (T : Tx K mg) : Binds K T.d__law_upright p__law_upright [] := T.F__law_upright.binds (ps := p__law_upright) fun _ _ _ _ _ _ us hl => match us, hl with | [_], _ => rfl
theorem b__law_roots_built (T : Tx K mg) : Binds K T.d__law_roots_built p__law_roots_built [] := T.F__law_roots_built.binds (ps := p__law_roots_built) fun _ _ _ _ _ _ us hl => match us, hl with | [_, _, _], _ => rfl
theorem b__law_built (T : Tx K mg) : Binds K T.d__law_built p__law_built [] := T.F__law_built.binds (ps := p__law_built) fun _ _ _ _ _ _ us hl => match us, hl with | [_, _], _ => rfl
theorem b__law_value (T : Tx K mg) : Binds K T.d__law_value p__law_value [] := T.F__law_value.binds (ps := p__law_value) fun _ _ _ _ _ _ us hl => match us, hl with | [_, _], _ => rfl
theorem b__law_bent (T : Tx K mg) : Binds K T.d__law_bent p__law_bent [] := T.F__law_bent.binds (ps := p__law_bent) fun _ _ _ _ _ _ us hl => match us, hl with | [_, _], _ => rfl
theorem b__law_right (T : Tx K mg) : Binds K T.d__law_right p__law_right [] := T.F__law_right.binds (ps := p__law_right) fun _ _ _ _ _ _ us hl => match us, hl with | [_], _ => rfl
/-! ### is_whole -/
def isWholeD : PyData → Bool
  | .int _ => true
  | _ => false
theorem isWholeD_true {d : PyData} (h : isWholeD d = true) : ∃ i, d = .int i := by
  cases d <;> simp [isWholeD] at h
  exact ⟨_, rfl⟩
def pre_is_whole : List PyData → Prop := fun ds => ∃ v, ds = [v]
def post_is_whole : List PyData → PyData → Prop := fun ds d => ∃ v, ds = [v] ∧ d = .bool (isWholeD v)
abbrev sp_is_whole (K : PySem.W.Frag) : Sp := SpP K pre_is_whole post_is_whole
theorem len_is_whole (K : PySem.W.Frag) (vs : List V) (H : Hp) (Q : VK) (E : XK) (h : sp_is_whole K vs H Q E) : vs.length = p_is_whole.length := len_P (n := 1) h fun ds hp => by
  obtain ⟨v, e⟩ := hp
  rw [e]; rfl
def t_is_whole (K : PySem.W.Frag) : TS :=
  (tRet (tAndV (tCB (rIsi K) (tCons (tVar 0) (tCons (tC (.ty "int")) tNil))) (tNotV (tCB (rIsi K) (tCons (tVar 0) (tCons (tC (.ty "bool")) tNil))))))
theorem pure_is_whole (K : PySem.W.Frag) (vs : List V) (H : Hp) (Q : VK) (E : XK) (h : sp_is_whole K vs H Q E) : t_is_whole K { nx := fun _ H' => Q .non H', rt := Q } (L2.start N_is_whole vs) H := body_P h fun B ds hW hp => by
  obtain ⟨v, e⟩ := hp
  subst e
  unfold t_is_whole
  refine st_ret (ev_andV (ev_isiInt (ev_var rfl ⟨_, rfl, fun hb => ?_, fun hb => ⟨_, rfl, ?_⟩⟩)))
  · refine ev_notV (ev_isiBool (ev_var rfl ⟨_, rfl, _, rfl, ?_⟩))
    cases v <;> simp_all [isIntT, isBoolT, isWholeD]
  · cases v <;> simp_all [isIntT, isBoolT, isWholeD]
theorem ok_is_whole (T : Tx K mg) : FnOk P w K mg base CX0 1 T.a_is_whole T.d_is_whole p_is_whole (sp_is_whole K) := by
  refine T.F_is_whole.ok sc_is_whole (fun vs H Q E h => len_is_whole K vs H Q E h) (fun cdv A outer s H vs Q E hr h => ?_)
  exact ⟨t_is_whole K, (pss_one (ps_ret (pe_and (pe_callB call_isi (by rfl) T.n_isinstance (by decide +kernel) (pa_cons (pv 0) (pa_cons (pe_bltn (v := .ty "int") (by rfl) T.n_int (by decide +kernel) rfl) pa_nil))) (pe_one (pe_not (pe_callB call_isi (by rfl) T.n_isinstance (by decide +kernel) (pa_cons (pv 0) (pa_cons (pe_bltn (v := .ty "bool") (by rfl) T.n_bool (by decide +kernel) rfl) pa_nil)))))))), pure_is_whole K vs H Q E h⟩
/-! ### is_fraction -/
def isPairD : PyData → PyData → Bool
  | .int n, .int m => decide (0 < m) && decide (((Nat.gcd n.natAbs m.natAbs : Nat) : Int) = 1)
  | _, _ => false
def isTwoD : List PyData → Bool
  | [x, y] => isPairD x y
  | _ => false
def isFracD : PyData → Bool
  | .tuple ds => isTwoD ds
  | _ => false
theorem isFrac_len {xs : List PyData} (h : xs.length ≠ 2) : isFracD (.tuple xs) = false := by
  match xs with
  | [] => rfl
  | [a] => rfl
  | [a, b] => exact absurd rfl h
  | a :: b :: c :: r => rfl
theorem isFracD_of {n m : Int} (h : 0 < m) (h2 : Nat.gcd n.natAbs m.natAbs = 1) : isFracD (.tuple [.int n, .int m]) = true := by
  show (decide (0 < m) && decide (((Nat.gcd n.natAbs m.natAbs : Nat) : Int) = 1)) = true
  rw [h2, decide_eq_true h]
  rfl
def pre_is_fraction : List PyData → Prop := fun ds => ∃ v, ds = [v]
def post_is_fraction : List PyData → PyData → Prop := fun ds d => ∃ v, ds = [v] ∧ d = .bool (isFracD v)
abbrev sp_is_fraction (K : PySem.W.Frag) : Sp := SpP K pre_is_fraction post_is_fraction
theorem len_is_fraction (K : PySem.W.Frag) (vs : List V) (H : Hp) (Q : VK) (E : XK) (h : sp_is_fraction K vs H Q E) : vs.length = p_is_fraction.length := len_P (n := 1) h fun ds hp => by
  obtain ⟨v, e⟩ := hp
  rw [e]; rfl
def t_is_fraction (K : PySem.W.Frag) : TS :=
  (tSeq (tIfS (tOr (tNot (tB (tCB (rIsi K) (tCons (tVar 0) (tCons (tC (.ty "tuple")) tNil))))) (tTest (tOp rNe (tCB (rLenQ K) (tCons (tVar 0) tNil)) (tC (.int 2))))) (tRet (tC (.bl false))) tNext)
  (tSeq (tAsg (tVar 0) (gTup K 2 (gCons (gName 1) (gCons (gName 2) gNil))))
  (tSeq (tIfS (tOr (tNot (tB (tCall (sp_is_whole K) [] E0 (tCons (tVar 1) tNil)))) (tNot (tB (tCall (sp_is_whole K) [] E0 (tCons (tVar 2) tNil))))) (tRet (tC (.bl false))) tNext)
  (tRet (tAndV (tOp (rI0 fun i j => .bl (decide (j < i))) (tVar 2) (tC (.int 0))) (tOp rEq (tCB rGcd (tCons (tVar 1) (tCons (tVar 2) tNil))) (tC (.int 1))))))))
theorem pure_is_fraction (K : PySem.W.Frag) (vs : List V) (H : Hp) (Q : VK) (E : XK) (h : sp_is_fraction K vs H Q E) : t_is_fraction K { nx := fun _ H' => Q .non H', rt := Q } (L2.start N_is_fraction vs) H := body_P h fun B ds hW hp => by
  obtain ⟨v, e⟩ := hp
  subst e
  unfold t_is_fraction
  refine st_seq (st_if (et_or (et_not (et_B (ev_isiTup (ev_var rfl ⟨_, rfl, fun hb => ?_, fun hb => ⟨fun _ => ?_, fun z => nomatch z⟩⟩))))))
  · obtain ⟨xs, rfl⟩ := isTupT_true (d := v) (by simpa using hb)
    refine et_test (ev_op (ev_cb (ea_cons (ev_var rfl (ea_nil (co_lenT (ev_int (rok_neI ⟨_, rfl, fun hb => ?_, fun hb => ?_⟩))))))))
    · refine st_ret (ev_bl ⟨_, rfl, ?_⟩)
      rw [isFrac_len]
      intro z
      rw [z] at hb
      cases hb
    · have hl : xs.length = 2 := by
        simp at hb
        omega
      obtain ⟨a, b, rfl⟩ : ∃ a b, xs = [a, b] := by
        match xs, hl with
        | [a, b], _ => exact ⟨a, b, rfl⟩
      refine st_next (st_seq (st_unpack (ev_var rfl ⟨_, rfl, rfl, tg_cons (tg_cons (tg_nil ?_))⟩)))
      refine st_seq (st_if (et_or (et_not (et_B (ev_callP (ea_cons (ev_var rfl (ea_nil ⟨⟨_, rfl⟩, fun d ⟨v, ev, ed⟩ => ?_⟩))))))))
      cases ev
      refine ⟨_, ed, fun hb => ?_, fun hb => ⟨fun _ => ?_, fun z => nomatch z⟩⟩
      · obtain ⟨n, rfl⟩ := isWholeD_true (d := a) (by simpa using hb)
        refine et_not (et_B (ev_callP (ea_cons (ev_var rfl (ea_nil ⟨⟨_, rfl⟩, fun d ⟨v, ev, ed⟩ => ?_⟩)))))
        cases ev
        refine ⟨_, ed, fun hb2 => ?_, fun hb2 => ?_⟩
        · refine st_ret (ev_bl ⟨_, rfl, ?_⟩)
          cases b <;> first | rfl | cases hb2
        · obtain ⟨m, rfl⟩ := isWholeD_true (d := b) (by simpa using hb2)
          refine st_next (st_ret (ev_andV (ev_op (ev_var rfl (ev_int (rok_b0 ⟨_, rfl, fun hb3 => ?_, fun hb3 => ?_⟩))))))
          · refine ev_op (ev_cb (ea_cons (ev_var rfl (ea_cons (ev_var rfl (ea_nil (cok_gcd (ev_int (rok_eqI ⟨_, rfl, ?_⟩)))))))))
            show _ = PyData.bool (decide (0 < m) && decide (((Nat.gcd n.natAbs m.natAbs : Nat) : Int) = 1))
            rw [hb3, Bool.true_and]
          · refine ⟨_, rfl, ?_⟩
            show _ = PyData.bool (decide (0 < m) && decide (((Nat.gcd n.natAbs m.natAbs : Nat) : Int) = 1))
            rw [hb3, Bool.false_and]
      · refine st_ret (ev_bl ⟨_, rfl, ?_⟩)
        cases a <;> first | rfl | cases hb
  · refine st_ret (ev_bl ⟨_, rfl, ?_⟩)
    cases v <;> first | rfl | cases hb
theorem ok_is_fraction (T : Tx K mg) : FnOk P w K mg base CX0 2 T.a_is_fraction T.d_is_fraction p_is_fraction (sp_is_fraction K) := by
  refine T.F_is_fraction.ok sc_is_fraction (fun vs H Q E h => len_is_fraction K vs H Q E h) (fun cdv A outer s H vs Q E hr h => ?_)
  exact ⟨t_is_fraction K, (pss_cons (ps_if (PW.pt (pw_or (pt_not (pt_val (pe_callB call_isi (by rfl) T.n_isinstance (by decide +kernel) (pa_cons (pv 0) (pa_cons (pe_bltn (v := .ty "tuple") (by rfl) T.n_tuple (by decide +kernel) rfl) pa_nil))))) (pw_or1 (pt_cmpR op_ne (pe_callB call_len_seq (by rfl) T.n_len (by decide +kernel) (pa_cons (pv 0) pa_nil)) pe_int (nomark _))))) (pss_one (ps_ret pe_bl)) pss_nil)
  (pss_cons (ps_asg (pv 0) (pg_tup (by rfl) (pgs_cons (pg_name (i := 1) sc_is_fraction.nd rfl (Or.inl rfl)) (pgs_cons (pg_name (i := 2) sc_is_fraction.nd rfl (Or.inl rfl)) pgs_nil))))
  (pss_cons (ps_if (PW.pt (pw_or (pt_not (pt_val (pe_call (ok_is_whole T) (hr.mono (by decide)) rfl T.g_is_whole T.F_is_whole.kp (b_is_whole T) .nil pass0 (pa_cons (pv 1) pa_nil)))) (pw_or1 (pt_not (pt_val (pe_call (ok_is_whole T) (hr.mono (by decide)) rfl T.g_is_whole T.F_is_whole.kp (b_is_whole T) .nil pass0 (pa_cons (pv 2) pa_nil))))))) (pss_one (ps_ret pe_bl)) pss_nil)
  (pss_one (ps_ret (pe_and (pe_cmpR op_gt (pv 2) pe_int (nomark _)) (pe_one (pe_cmpR op_eq (pe_callBfun cr_gcd (by rfl) T.l_gcd (pa_cons (pv 1) (pa_cons (pv 2) pa_nil))) pe_int (nomark _))))))))), pure_is_fraction K vs H Q E h⟩
/-! ### lowest -/

def pre_lowest : List PyData → Prop := fun ds => ∃ n m : Int, ds = [.int n, .int m] ∧ 0 < m ∧ m.natAbs < 2 ^ 9000
def post_lowest : List PyData → PyData → Prop := fun ds d => ∃ n m : Int, ds = [.int n, .int m] ∧ ∃ x : Fr, d = frD x ∧ FOk x ∧ val x = (n : Rat) / (m : Rat) ∧ x.1.natAbs ≤ n.natAbs ∧ x.2.natAbs ≤ m.natAbs
abbrev sp_lowest (K : PySem.W.Frag) : Sp := SpP K pre_lowest post_lowest
theorem len_lowest (K : PySem.W.Frag) (vs : List V) (H : Hp) (Q : VK) (E : XK) (h : sp_lowest K vs H Q E) : vs.length = p_lowest.length := len_P (n := 2) h fun ds hp => by
  obtain ⟨n, m, e, hm, hz⟩ := hp
  rw [e]; rfl
def t_lowest (K : PySem.W.Frag) : TS :=
  (tSeq (tAsg (tCB rGcd (tCons (tVar 0) (tCons (tVar 1) tNil))) (gName 2))
  (tRet (tTup (tCons (tOp rFdA (tVar 0) (tVar 2)) (tCons (tOp rFdA (tVar 1) (tVar 2)) tNil)))))
theorem pure_lowest (K : PySem.W.Frag) (vs : List V) (H : Hp) (Q : VK) (E : XK) (h : sp_lowest K vs H Q E) : t_lowest K { nx := fun _ H' => Q .non H', rt := Q } (L2.start N_lowest vs) H := body_P h fun B ds hW hp => by
  obtain ⟨n, m, e, hm, hz⟩ := hp
  subst e
  unfold t_lowest
  refine st_seq (st_asg (ev_cb (ea_cons (ev_var rfl (ea_cons (ev_var rfl (ea_nil (cok_gcd ?_))))))))
  have hg : 0 < Nat.gcd n.natAbs m.natAbs := Nat.gcd_pos_of_pos_right _ (by omega)
  have gl : Nat.gcd n.natAbs m.natAbs ≤ m.natAbs := Nat.le_of_dvd (by omega) (Nat.gcd_dvd_right _ _)
  obtain ⟨p, hp⟩ : ((Nat.gcd n.natAbs m.natAbs : Nat) : Int) ∣ n := Int.ofNat_dvd_left.mpr (Nat.gcd_dvd_left _ _)
  obtain ⟨r, hr⟩ : ((Nat.gcd n.natAbs m.natAbs : Nat) : Int) ∣ m := Int.ofNat_dvd_left.mpr (Nat.gcd_dvd_right _ _)
  have hc : Nat.gcd p.natAbs r.natAbs = 1 := by
    have e1 : n.natAbs = Nat.gcd n.natAbs m.natAbs * p.natAbs := by
      conv => lhs; rw [hp, Int.natAbs_mul, Int.natAbs_natCast]
    have e2 : m.natAbs = Nat.gcd n.natAbs m.natAbs * r.natAbs := by
      conv => lhs; rw [hr, Int.natAbs_mul, Int.natAbs_natCast]
    have e3 : Nat.gcd (Nat.gcd n.natAbs m.natAbs * p.natAbs) (Nat.gcd n.natAbs m.natAbs * r.natAbs) = Nat.gcd n.natAbs m.natAbs * Nat.gcd p.natAbs r.natAbs := Nat.gcd_mul_left ..
    rw [← e1, ← e2] at e3
    exact Nat.eq_of_mul_eq_mul_left hg (by rw [Nat.mul_one]; exact e3.symm)
  generalize Nat.gcd n.natAbs m.natAbs = g at *
  have hg0 : (0 : Int) < (g : Int) := by omega
  have dn : n / (g : Int) = p := by
    rw [hp]
    exact Int.mul_ediv_cancel_left _ (by omega)
  have dm : m / (g : Int) = r := by
    rw [hr]
    exact Int.mul_ediv_cancel_left _ (by omega)
  have cd : CDivW 0 (g : Int) := by
    refine ⟨hg0, ?_⟩
    have := lg (x := (g : Int)) (m := 9000) (by rw [Int.natAbs_natCast]; omega)
    rw [Int.natAbs_natCast] at this ⊢
    exact (Nat.log2_lt (by omega)).mpr (by omega)
  have cdn : CDivW n (g : Int) := cd
  have cdm : CDivW m (g : Int) := cd
  have rn := ratInt_ne (a := m) (by omega)
  have rg := ratInt_ne (a := (g : Int)) (by omega)
  have ln : p.natAbs ≤ n.natAbs := by
    rw [hp, Int.natAbs_mul, Int.natAbs_natCast]
    exact Nat.le_mul_of_pos_left _ hg
  have lm : r.natAbs ≤ m.natAbs := by
    rw [hr, Int.natAbs_mul, Int.natAbs_natCast]
    exact Nat.le_mul_of_pos_left _ hg
  have vp : (n : Rat) = (g : Int) * (p : Rat) := by
    conv => lhs; rw [hp]
    exact Rat.intCast_mul _ _
  have vr : (m : Rat) = (g : Int) * (r : Rat) := by
    conv => lhs; rw [hr]
    exact Rat.intCast_mul _ _
  have r0 : 0 < r := by
    rcases Int.lt_trichotomy r 0 with z | z | z
    · have := Int.mul_neg_of_pos_of_neg hg0 z
      omega
    · rw [z] at hr
      omega
    · exact z
  refine st_ret (ev_tup (ea_cons (ev_op (ev_var rfl (ev_var rfl (ro_fdW cdn ?_))))))
  refine ea_cons (ev_op (ev_var rfl (ev_var rfl (ro_fdW cdm (ea_nil ⟨by simp, n, m, rfl, (p, r), ?_, ⟨r0, hc⟩, ?_, ln, lm⟩)))))
  · rw [dn, dm]
    rfl
  · have := ratInt_ne (a := r) (by omega)
    unfold val
    rw [vp, vr]
    grind
theorem ok_lowest (T : Tx K mg) : FnOk P w K mg base CX0 1 T.a_lowest T.d_lowest p_lowest (sp_lowest K) := by
  refine T.F_lowest.ok sc_lowest (fun vs H Q E h => len_lowest K vs H Q E h) (fun cdv A outer s H vs Q E hr h => ?_)
  exact ⟨t_lowest K, (pss_cons (ps_set (i := 2) sc_lowest.nd rfl (Or.inl rfl) (pe_callBfun cr_gcd (by rfl) T.l_gcd (pa_cons (pv 0) (pa_cons (pv 1) pa_nil))))
  (pss_one (ps_ret (pe_tup (pa_cons (pe_op op_fdA (pv 0) (pv 2)) (pa_cons (pe_op op_fdA (pv 1) (pv 2)) pa_nil)))))), pure_lowest K vs H Q E h⟩
/-! ### inverse_modulo -/

def pre_inverse_modulo : List PyData → Prop := fun ds => ∃ n p : Int, ds = [.int n, .int p] ∧ Pr p ∧ ¬ p ∣ n ∧ p.natAbs < 2 ^ 9700
def post_inverse_modulo : List PyData → PyData → Prop := fun ds d => ∃ n p r : Int, ds = [.int n, .int p] ∧ d = .int r ∧ p ∣ r * n - 1 ∧ 0 ≤ r ∧ r < p
abbrev sp_inverse_modulo (K : PySem.W.Frag) : Sp := SpP K pre_inverse_modulo post_inverse_modulo
theorem len_inverse_modulo (K : PySem.W.Frag) (vs : List V) (H : Hp) (Q : VK) (E : XK) (h : sp_inverse_modulo K vs H Q E) : vs.length = p_inverse_modulo.length := len_P (n := 2) h fun ds hp => by
  obtain ⟨n, p, e, P, hn, pb⟩ := hp
  rw [e]; rfl
def t_inverse_modulo (K : PySem.W.Frag) : TS :=
  (tSeq (tPar 2 3 (tCons (tVar 1) (tCons (tOp rModA (tVar 0) (tVar 1)) tNil)))
  (tSeq (tAsg (tTup (tCons (tC (.int 0)) (tCons (tC (.int 1)) tNil))) (gTup K 2 (gCons (gName 4) (gCons (gName 5) gNil))))
  (tSeq (tWhile (tTru K (tVar 3)) (tSeq (tAsg (tCB rDivmodQ (tCons (tVar 2) (tCons (tVar 3) tNil))) (gTup K 2 (gCons (gName 6) (gCons (gName 7) gNil))))
  (tSeq (tPar 2 3 (tCons (tVar 3) (tCons (tVar 7) tNil)))
  (tPar 4 5 (tCons (tVar 5) (tCons (tOp (rI0 fun i j => .int (i - j)) (tVar 4) (tOp (rMulA K) (tVar 6) (tVar 5))) tNil))))))
  (tRet (tOp rModA (tVar 4) (tVar 1))))))
theorem pure_inverse_modulo (K : PySem.W.Frag) (vs : List V) (H : Hp) (Q : VK) (E : XK) (h : sp_inverse_modulo K vs H Q E) : t_inverse_modulo K { nx := fun _ H' => Q .non H', rt := Q } (L2.start N_inverse_modulo vs) H := body_P h fun B ds hW hp => by
  obtain ⟨n, p, e, P, hn, pb⟩ := hp
  subst e
  unfold t_inverse_modulo
  have p1 := P.one
  have g1 : Nat.gcd p.natAbs (n % p).natAbs = 1 := by
    refine Classical.byContradiction fun ne => ?_
    have a := Nat.gcd_dvd_left p.natAbs (n % p).natAbs
    have b := Nat.gcd_dvd_right p.natAbs (n % p).natAbs
    have g0 : 0 < Nat.gcd p.natAbs (n % p).natAbs := Nat.gcd_pos_of_pos_left _ (by omega)
    have e := P.d _ (by omega) a
    rw [e] at b
    have d1 : p ∣ n % p := Int.natAbs_dvd_natAbs.mp b
    have := Int.emod_add_mul_ediv n p
    obtain ⟨z, hz⟩ := d1
    exact hn ⟨z + n / p, by rw [Int.mul_add]; omega⟩
  have m0 := Int.emod_nonneg n (show p ≠ 0 by omega)
  have m1 := Int.emod_lt_of_pos n (show 0 < p by omega)
  refine st_seq (st_par (ea_cons (ev_var rfl (ea_cons (ev_op (ev_var rfl (ev_var rfl (ro_mod (by omega) (ea_nil ⟨_, _, rfl, ?_⟩)))))))))
  refine st_seq (st_unpack (ev_tup (ea_cons (ev_int (ea_cons (ev_int (ea_nil ⟨by simp, _, rfl, rfl, tg_cons (tg_cons (tg_nil ?_))⟩)))))))
  refine st_seq (st_while (fun m L2 Γ2 => ∃ (a b x y : Int) (s6 s7 : Sl), L2 = [] ∧ Γ2 = [.d (.int n), .d (.int p), .d (.int a), .d (.int b), .d (.int x), .d (.int y), s6, s7] ∧ 0 < a ∧ 0 ≤ b ∧ b < p ∧ a ≤ p ∧ b.natAbs = m ∧ Nat.gcd a.natAbs b.natAbs = 1 ∧ a.natAbs * y.natAbs + b.natAbs * x.natAbs ≤ p.natAbs ∧ p ∣ x * n - a ∧ p ∣ y * n - b) (n % p).natAbs ⟨p, n % p, 0, 1, _, _, rfl, rfl, by omega, m0, m1, Int.le_refl _, rfl, g1, by simp, ⟨-1, by omega⟩, ?_⟩ ?_)
  · have := Int.emod_add_mul_ediv n p
    exact ⟨n / p, by omega⟩
  · rintro m L2 Γ2 ⟨a, b, x, y, s6, s7, rfl, rfl, a0, b0, b1, a1, rfl, hg, hs, ⟨u, hu⟩, ⟨v, hv⟩⟩
    refine et_tru (ev_var rfl ⟨trivial, fun hb => ?_, fun hb => ?_⟩)
    · have bp : 0 < b := by
        have hb : (b != 0) = true := hb
        have : b ≠ 0 := by simpa using hb
        omega
      have c1 := Int.emod_nonneg a (show b ≠ 0 by omega)
      have c2 := Int.emod_lt_of_pos a bp
      have c3 := Int.emod_add_mul_ediv a b
      have q0 : 0 ≤ a / b := Int.ediv_nonneg (by omega) b0
      have la : a.natAbs.log2 < 13500 := by
        have := lg (show a.natAbs < 2 ^ 9700 by omega)
        omega
      have yb : y.natAbs < 2 ^ 9700 := by
        have : 1 * y.natAbs ≤ a.natAbs * y.natAbs := Nat.mul_le_mul_right _ (by omega)
        omega
      have qb : (a / b).natAbs < 2 ^ 9700 := by
        have := Int.natAbs_ediv_le_natAbs a b
        omega
      refine st_seq (st_unpack (ev_cb (ea_cons (ev_var rfl (ea_cons (ev_var rfl (ea_nil (cok_divmod bp (.inr la) ⟨_, rfl, rfl, tg_cons (tg_cons (tg_nil ?_))⟩))))))))
      refine st_seq (st_par (ea_cons (ev_var rfl (ea_cons (ev_var rfl (ea_nil ⟨_, _, rfl, ?_⟩))))))
      refine st_par (ea_cons (ev_var rfl (ea_cons (ev_op (ev_var rfl (ev_op (ev_var rfl (ev_var rfl (ro_mulW (mulW_of qb yb (by decide)) (rok_i0 (ea_nil ⟨_, _, rfl, ?_⟩)))))))))))
      refine ⟨(a % b).natAbs, by omega, b, a % b, y, x - a / b * y, _, _, rfl, rfl, bp, c1, by omega, by omega, rfl, ?_, ?_, ⟨v, hv⟩, ⟨u - a / b * v, ?_⟩⟩
      · rw [← hg]
        have e1 : (a % b).natAbs = a.natAbs % b.natAbs := by
          rw [Int.natAbs_emod_of_nonneg (by omega)]
        rw [e1, Nat.gcd_comm, ← Nat.gcd_rec, Nat.gcd_comm]
      · have t1 : (x - a / b * y).natAbs ≤ x.natAbs + (a / b).natAbs * y.natAbs := by
          rw [← Int.natAbs_mul]
          omega
        have t2 := Nat.mul_le_mul_left b.natAbs t1
        have t3 : a.natAbs = (a % b).natAbs + b.natAbs * (a / b).natAbs := by
          have h1 : ((a.natAbs : Nat) : Int) = (((a % b).natAbs + b.natAbs * (a / b).natAbs : Nat) : Int) := by
            rw [Int.natCast_add, Int.natCast_mul, Int.natAbs_of_nonneg (by omega : 0 ≤ a), Int.natAbs_of_nonneg c1, Int.natAbs_of_nonneg b0, Int.natAbs_of_nonneg q0]
            omega
          exact Int.ofNat.inj h1
        have t4 : a.natAbs * y.natAbs = (a % b).natAbs * y.natAbs + b.natAbs * ((a / b).natAbs * y.natAbs) := by
          conv => lhs; rw [t3, Nat.add_mul, Nat.mul_assoc]
        rw [Nat.mul_add] at t2
        have t5 := Nat.mul_comm (b.natAbs) ((x - a / b * y).natAbs)
        omega
      · have : (x - a / b * y) * n - a % b = (x * n - a) - a / b * (y * n - b) := by
          have e1 : a % b = a - b * (a / b) := by omega
          rw [e1]
          grind
        rw [this, hu, hv]
        grind
    · have b2 : b = 0 := by
        have hb : (b != 0) = false := hb
        simpa using hb
      have a2 : a = 1 := by
        rw [b2] at hg
        simp at hg
        omega
      subst b2 a2
      refine st_ret (ev_op (ev_var rfl (ev_var rfl (ro_mod (by omega) ⟨n, p, _, rfl, rfl, ?_, Int.emod_nonneg _ (by omega), Int.emod_lt_of_pos _ (by omega)⟩))))
      have e1 := Int.emod_add_mul_ediv x p
      refine ⟨u - x / p * n, ?_⟩
      have : x % p * n = x * n - p * (x / p) * n := by
        have : x % p = x - p * (x / p) := by omega
        rw [this]
        grind
      rw [this]
      have : x * n - p * (x / p) * n - 1 = (x * n - 1) - p * (x / p * n) := by grind
      rw [this, hu]
      grind
theorem ok_inverse_modulo (T : Tx K mg) : FnOk P w K mg base CX0 1 T.a_inverse_modulo T.d_inverse_modulo p_inverse_modulo (sp_inverse_modulo K) := by
  refine T.F_inverse_modulo.ok sc_inverse_modulo (fun vs H Q E h => len_inverse_modulo K vs H Q E h) (fun cdv A outer s H vs Q E hr h => ?_)
  exact ⟨t_inverse_modulo K, (pss_cons (ps_par (by rfl) sc_inverse_modulo.nd rfl rfl (by decide) rfl rfl (pa_cons (pv 1) (pa_cons (pe_op op_modA (pv 0) (pv 1)) pa_nil)) (by rfl))
  (pss_cons (ps_asg (pe_tup (pa_cons pe_int (pa_cons pe_int pa_nil))) (pg_tup (by rfl) (pgs_cons (pg_name (i := 4) sc_inverse_modulo.nd rfl (Or.inl rfl)) (pgs_cons (pg_name (i := 5) sc_inverse_modulo.nd rfl (Or.inl rfl)) pgs_nil))))
  (pss_cons (ps_while PassesOwn.never (pt_truth (pv 3) (by intro _; rfl)) (pss_cons (ps_asg (pe_callB call_divmodW (by rfl) T.n_divmod (by decide +kernel) (pa_cons (pv 2) (pa_cons (pv 3) pa_nil))) (pg_tup (by rfl) (pgs_cons (pg_name (i := 6) sc_inverse_modulo.nd rfl (Or.inl rfl)) (pgs_cons (pg_name (i := 7) sc_inverse_modulo.nd rfl (Or.inl rfl)) pgs_nil))))
  (pss_cons (ps_par (by rfl) sc_inverse_modulo.nd rfl rfl (by decide) rfl rfl (pa_cons (pv 3) (pa_cons (pv 7) pa_nil)) (by rfl))
  (pss_one (ps_par (by rfl) sc_inverse_modulo.nd rfl rfl (by decide) rfl rfl (pa_cons (pv 5) (pa_cons (pe_op op_sub (pv 4) (pe_op op_mulA (pv 6) (pv 5))) pa_nil)) (by rfl))))))
  (pss_one (ps_ret (pe_op op_modA (pv 4) (pv 1))))))), pure_inverse_modulo K vs H Q E h⟩
/-! ### trimmed -/
def pre_trimmed : List PyData → Prop := fun ds => ∃ ns : List Int, ds = [.list (ns.map .int)] ∧ ns.length ≤ 1000
def post_trimmed : List PyData → PyData → Prop := fun ds d => ∃ ns : List Int, ds = [.list (ns.map .int)] ∧ d = .tuple ((trim ns).map .int)
abbrev sp_trimmed (K : PySem.W.Frag) : Sp := SpP K pre_trimmed post_trimmed
theorem len_trimmed (K : PySem.W.Frag) (vs : List V) (H : Hp) (Q : VK) (E : XK) (h : sp_trimmed K vs H Q E) : vs.length = p_trimmed.length := len_P (n := 1) h fun ds hp => by
  obtain ⟨ns, e, hl⟩ := hp
  rw [e]; rfl
def t_trimmed (K : PySem.W.Frag) : TS :=
  (tSeq (tAsg (tCB (rLenQ K) (tCons (tVar 0) tNil)) (gName 1))
  (tSeq (tWhile (tAnd (tTest (tOp (rI0 fun i j => .bl (decide (j < i))) (tVar 1) (tC (.int 0)))) (tTest (tOp rEq (tOp (rIx K) (tVar 0) (tOp (rI0 fun i j => .int (i - j)) (tVar 1) (tC (.int 1)))) (tC (.int 0))))) (tAug 1 (tC (.int 1)) (ipI fun i j => i - j)))
  (tRet (tCB (rTupleQ K) (tCons (tSl (rSlX2 K) (tVar 0) tNoPart (tPart (tVar 1))) tNil)))))
theorem pure_trimmed (K : PySem.W.Frag) (vs : List V) (H : Hp) (Q : VK) (E : XK) (h : sp_trimmed K vs H Q E) : t_trimmed K { nx := fun _ H' => Q .non H', rt := Q } (L2.start N_trimmed vs) H := body_P h fun B ds hW hp => by
  obtain ⟨ns, e, hl⟩ := hp
  subst e
  unfold t_trimmed
  refine st_seq (st_asg (ev_cb (ea_cons (ev_var rfl (ea_nil (co_lenL ?_))))))
  rw [List.length_map]
  refine st_seq (st_while (fun m L2 Γ2 => L2 = [] ∧ Γ2 = [.d (.list (ns.map .int)), .d (.int (m : Int))] ∧ m ≤ ns.length ∧ ∀ x ∈ ns.drop m, x = 0) ns.length ⟨rfl, rfl, Nat.le_refl _, by simp⟩ ?_)
  rintro m L2 Γ2 ⟨rfl, rfl, hm, hz⟩
  walk_at "dd"
  refine ⟨fun hb => ?_, fun hb => ?_⟩
  · have hm0 : 0 < m := by
      have := of_decide_eq_true hb
      omega
    have hg : ns[m - 1]? = some (ns.getD (m - 1) 0) := by
      rw [List.getD_eq_getElem?_getD, List.getElem?_eq_getElem (by omega)]
      rfl
    walk_at "dd"
    refine rok_ixsL (d := .int (ns.getD (m - 1) 0)) ?_ ?_
    · rw [show ((m : Int) - 1) = ((m - 1 : Nat) : Int) by omega, atI_n, List.getElem?_map, hg]
      rfl
    walk_at "dd"
    refine ⟨fun hb2 => ?_, fun hb2 => ?_⟩
    · have e0 : ns.getD (m - 1) 0 = 0 := of_decide_eq_true hb2
      refine st_augI rfl (ev_int ⟨_, rfl, m - 1, by omega, rfl, ?_, by omega, fun x hx => ?_⟩)
      · rw [show ((m : Int) - 1) = ((m - 1 : Nat) : Int) by omega]
        rfl
      · have : ns.drop (m - 1) = ns.getD (m - 1) 0 :: ns.drop m := by
          rw [List.drop_eq_getElem_cons (by omega), show m - 1 + 1 = m by omega]
          rw [List.getD_eq_getElem?_getD, List.getElem?_eq_getElem (by omega)]
          rfl
        rw [this] at hx
        rcases List.mem_cons.mp hx with h | h
        · rw [h, e0]
        · exact hz x h
    · have e0 : ns.getD (m - 1) 0 ≠ 0 := of_decide_eq_false hb2
      walk_at "dd"
      refine co_tupL ⟨ns, rfl, ?_⟩
      rw [cutD_take _ (by rw [List.length_map]; exact hm), ← List.map_take, trim_take hz (fun _ => e0)]
  · have hm0 : m = 0 := by
      have := of_decide_eq_false hb
      omega
    subst hm0
    refine ⟨(fun z => nomatch z), fun _ => ?_⟩
    walk_at "dd"
    refine co_tupL ⟨ns, rfl, ?_⟩
    rw [cutD_take _ (by rw [List.length_map]; exact hm), ← List.map_take, trim_take hz (fun z => absurd z (by omega))]
theorem ok_trimmed (T : Tx K mg) : FnOk P w K mg base CX0 1 T.a_trimmed T.d_trimmed p_trimmed (sp_trimmed K) := by
  refine T.F_trimmed.ok sc_trimmed (fun vs H Q E h => len_trimmed K vs H Q E h) (fun cdv A outer s H vs Q E hr h => ?_)
  exact ⟨t_trimmed K, (pss_cons (ps_set (i := 1) sc_trimmed.nd rfl (Or.inl rfl) (pe_callB call_len_seq (by rfl) T.n_len (by decide +kernel) (pa_cons (pv 0) pa_nil)))
  (pss_cons (ps_while PassesOwn.never (PW.pt (pw_and (pt_cmpR op_gt (pv 1) pe_int (nomark _)) (pw_and1 (pt_cmpR op_eq (pe_ix ix_seq (pv 0) (pe_op op_sub (pv 1) pe_int) (fun _ _ => rfl)) pe_int (nomark _))))) (pss_one (ps_aug (i := 1) sc_trimmed.nd rfl (Or.inl rfl) pe_int ip_sub)))
  (pss_one (ps_ret (pe_callTy call_tuple_of (by rfl) T.n_tuple (by decide +kernel) (pa_cons (pe_slice sl_any (pv 0) po_none (po_some (pv 1))) pa_nil)))))), pure_trimmed K vs H Q E h⟩
/-! ### blend -/
def pre_blend : List PyData → Prop := fun ds => ∃ (u v : List Int) (a b : Int), ds = [.tuple (u.map .int), .int a, .tuple (v.map .int), .int b] ∧ u.length ≤ 400 ∧ v.length ≤ 400 ∧ a.natAbs < 2 ^ 4000 ∧ b.natAbs < 2 ^ 4000 ∧ bd u 4000 ∧ bd v 4000
def post_blend : List PyData → PyData → Prop := fun ds d => ∃ (u v : List Int) (a b : Int), ds = [.tuple (u.map .int), .int a, .tuple (v.map .int), .int b] ∧ d = .tuple ((trim (comb a u b v)).map .int)
abbrev sp_blend (K : PySem.W.Frag) : Sp := SpP K pre_blend post_blend
theorem len_blend (K : PySem.W.Frag) (vs : List V) (H : Hp) (Q : VK) (E : XK) (h : sp_blend K vs H Q E) : vs.length = p_blend.length := len_P (n := 4) h fun ds hp => by
  obtain ⟨u, v, a, b, e, hu, hv, ha, hb, bu, bv⟩ := hp
  rw [e]; rfl
def t_blend (K : PySem.W.Frag) : TS :=
  (tSeq (tAsg (tLc (iTup K (tVar 0)) (gName 4) tYes (tOp (rMulA K) (tVar 1) (tVar 4)) [4]) (gName 5))
  (tSeq (tDrop (tBM K "list" rExtend (tVar 5) (tCons (tOp (rMulA K) (tLst (tCons (tC (.int 0)) tNil)) (tOp (rI0 fun i j => .int (i - j)) (tCB (rLenQ K) (tCons (tVar 2) tNil)) (tCB (rLenQ K) (tCons (tVar 0) tNil)))) tNil)))
  (tSeq (tFor (iEnumT K (tCons (tVar 2) tNil)) (gTup K 2 (gCons (gName 6) (gCons (gName 4) gNil))) (tAugS (tVar 5) (tVar 6) (tOp (rMulA K) (tVar 3) (tVar 4)) (rGetL K) (ipI fun i j => i + j) rSetL))
  (tRet (tCall (sp_trimmed K) [] E0 (tCons (tVar 5) tNil))))))
theorem pure_blend (K : PySem.W.Frag) (vs : List V) (H : Hp) (Q : VK) (E : XK) (h : sp_blend K vs H Q E) : t_blend K { nx := fun _ H' => Q .non H', rt := Q } (L2.start N_blend vs) H := body_P h fun B ds hW hp => by
  obtain ⟨u, v, a, b, e, hu, hv, ha, hb, bu, bv⟩ := hp
  subst e
  unfold t_blend
  refine st_seq (st_own (en_lcT (wipe1 4) (ev_var rfl ⟨_, rfl, by simp; omega, fun i acc => acc = ((u.take i).map fun x => PyData.int (a * x)), ⟨rfl, fun i D d' acc hi hJ hin => ?_⟩, fun acc hJ => ?_⟩)))
  · obtain ⟨x, hx, rfl⟩ : ∃ x, u[i]? = some x ∧ d' = .int x := map_get hi
    refine et_yes ⟨fun _ => ?_, fun z => nomatch z⟩
    refine ev_op (ev_var rfl (ev_var rfl (ro_mulW (mulW_of (m := 4000) (n := 4000) ha (bu _ (List.mem_of_getElem? hx)) (by decide)) ?_)))
    subst hJ
    rw [List.take_add_one, hx, List.map_append]
    rfl
  · intro l
    rw [List.length_map, List.take_length] at hJ
    subst hJ
    refine st_seq (st_extend rfl ?_)
    walk_at "dd"
    refine ro_repN (by simp; omega) (by simp; omega) (by simp; omega) ⟨_, rfl, by simp; omega, ?_⟩
    have e1 : (u.map fun x => PyData.int (a * x)) ++ (List.replicate (((v.map PyData.int).length : Int) - ((u.map PyData.int).length : Int)).toNat [PyData.int 0]).flatten = (sums a u b v 0).map PyData.int := by
      rw [sums_zero, List.map_append, List.map_map, List.length_map, List.length_map, List.map_replicate, List.flatten_replicate_singleton]
      congr 2
      omega
    rw [e1]
    refine st_seq (st_forE (ea_cons (ev_var rfl (ea_nil ⟨_, rfl, fun i L2 Γ2 => ∃ s1 s2 : Sl, L2 = [l] ∧ Γ2 = [.d (.tuple (u.map .int)), .d (.int a), .d (.tuple (v.map .int)), .d (.int b), s1, .own l ((sums a u b v i).map .int), s2], ⟨_, _, rfl, rfl⟩, ?_, ?_⟩))))
    · rintro i d' L2 Γ2 g hi ⟨s1, s2, rfl, rfl⟩
      obtain ⟨y, hy, rfl⟩ : ∃ x, v[i]? = some x ∧ d' = .int x := map_get hi
      have hi2 : i < v.length := (List.getElem?_eq_some_iff.mp hy).1
      refine st_addOwn rfl (ev_var rfl ⟨i, a * u.getD i 0, rfl, ?_, ?_⟩)
      · rw [List.getElem?_map, sums_at a u b v i i (by omega), if_neg (by omega)]
        simp
      · refine ev_op (ev_var rfl (ev_var rfl (ro_mulW (mulW_of (m := 4000) (n := 4000) hb (bv _ (List.mem_of_getElem? hy)) (by decide)) ?_)))
        refine ⟨_, rfl, .d (.int y), .d (.int (i : Int)), rfl, ?_⟩
        rw [sums_step hy, List.map_set]
        rfl
    · rintro L2 Γ2 ⟨s1, s2, rfl, rfl⟩
      rw [List.length_map, sums_all]
      refine st_freeze 5 rfl (by simp) (st_ret (ev_callP (ea_cons (ev_var rfl (ea_nil ⟨⟨_, rfl, by rw [comb_len]; omega⟩, fun d ⟨ns, en, ed⟩ => ?_⟩)))))
      cases map_int_inj (by injection en with en; injection en)
      exact ⟨u, v, a, b, rfl, ed⟩
theorem ok_blend (T : Tx K mg) : FnOk P w K mg base CX0 2 T.a_blend T.d_blend p_blend (sp_blend K) := by
  refine T.F_blend.ok sc_blend (fun vs H Q E h => len_blend K vs H Q E h) (fun cdv A outer s H vs Q E hr h => ?_)
  exact ⟨t_blend K, (pss_cons (ps_setLc (i := 5) (own := [("number", 4)]) (by rfl) sc_blend.nd rfl rfl (sw_true rfl rfl rfl (by decide +kernel)) (pi_tup (pv 0)) (blkOk_by (own := [("number", 4)]) (N := N_blend) (sc := defScope s_blend) (by decide +kernel)) (fun _ _ _ _ _ => pg_name (i := 4) sc_blend.nd rfl (Or.inl rfl)) (fun _ _ _ _ _ => pts_nil) (fun _ _ _ _ _ => (pe_op op_mulA (pv 1) (pv 4))))
  (pss_cons (ps_expr (pe_bm PySem.F.plainAttrs_list PySem.F.slot_list_extend PySem.F.type_list_extend mt_extend (pv 5) (pa_cons (pe_op op_mulA (pe_lst (pa_cons pe_int pa_nil)) (pe_op op_sub (pe_callB call_len_seq (by rfl) T.n_len (by decide +kernel) (pa_cons (pv 2) pa_nil)) (pe_callB call_len_seq (by rfl) T.n_len (by decide +kernel) (pa_cons (pv 0) pa_nil)))) pa_nil)))
  (pss_cons (ps_for PassesOwn.never rfl (pi_enumT (by rfl) T.n_enumerate (pa_cons (pv 2) pa_nil)) (pg_tup (by rfl) (pgs_cons (pg_name (i := 6) sc_blend.nd rfl (Or.inl rfl)) (pgs_cons (pg_name (i := 4) sc_blend.nd rfl (Or.inl rfl)) pgs_nil))) (pss_one (ps_augS (pv 5) (pv 6) get_list (pe_op op_mulA (pv 3) (pv 4)) ip_add set_list)))
  (pss_one (ps_ret (pe_call (ok_trimmed T) (hr.mono (by decide)) rfl T.g_trimmed T.F_trimmed.kp (b_trimmed T) .nil pass0 (pa_cons (pv 5) pa_nil))))))), pure_blend K vs H Q E h⟩
/-! ### content -/
def pre_content : List PyData → Prop := fun ds => ∃ u : List Int, ds = [.tuple (u.map .int)] ∧ u.length ≤ 400
def post_content : List PyData → PyData → Prop := fun ds d => ∃ u : List Int, ds = [.tuple (u.map .int)] ∧ d = .int ((gcdL u : Nat) : Int)
abbrev sp_content (K : PySem.W.Frag) : Sp := SpP K pre_content post_content
theorem len_content (K : PySem.W.Frag) (vs : List V) (H : Hp) (Q : VK) (E : XK) (h : sp_content K vs H Q E) : vs.length = p_content.length := len_P (n := 1) h fun ds hp => by
  obtain ⟨u, e, hl⟩ := hp
  rw [e]; rfl
def t_content (K : PySem.W.Frag) : TS :=
  (tSeq (tAsg (tC (.int 0)) (gName 1))
  (tSeq (tFor (iTup K (tVar 0)) (gName 2) (tSeq (tAsg (tCB rGcd (tCons (tVar 1) (tCons (tVar 2) tNil))) (gName 1))
  (tIfS (tTest (tOp rEq (tVar 1) (tC (.int 1)))) (tRet (tC (.int 1))) tNext)))
  (tRet (tVar 1))))
theorem pure_content (K : PySem.W.Frag) (vs : List V) (H : Hp) (Q : VK) (E : XK) (h : sp_content K vs H Q E) : t_content K { nx := fun _ H' => Q .non H', rt := Q } (L2.start N_content vs) H := body_P h fun B ds hW hp => by
  obtain ⟨u, e, hl⟩ := hp
  subst e
  unfold t_content
  refine st_seq (st_asg (ev_int ?_))
  refine st_seq (st_forT (ev_var rfl ⟨_, rfl, fun i L2 Γ2 => ∃ s : Sl, L2 = [] ∧ Γ2 = [.d (.tuple (u.map .int)), .d (.int ((gcdL (u.take i) : Nat) : Int)), s], ⟨_, rfl, rfl⟩, ?_, ?_⟩))
  · rintro i d' L2 Γ2 g hi ⟨s, rfl, rfl⟩
    obtain ⟨x, hx, rfl⟩ : ∃ x, u[i]? = some x ∧ d' = .int x := map_get hi
    have e1 : gcdL (u.take (i + 1)) = Nat.gcd ((gcdL (u.take i) : Nat) : Int).natAbs x.natAbs := by
      rw [List.take_add_one, hx, gcdL_append, Int.natAbs_natCast]
      simp [gcdL]
    refine st_seq (st_asg (ev_cb (ea_cons (ev_var rfl (ea_cons (ev_var rfl (ea_nil (cok_gcd ?_))))))))
    rw [← e1]
    walk_at "dd"
    refine ⟨fun hb => ?_, fun hb => ?_⟩
    · refine st_ret (ev_int ⟨u, rfl, ?_⟩)
      have h1 : gcdL (u.take (i + 1)) = 1 := by
        have := of_decide_eq_true hb
        omega
      have h2 : gcdL u ∣ gcdL (u.take (i + 1)) := by
        have := gcdL_append (u.take (i + 1)) (u.drop (i + 1))
        rw [List.take_append_drop] at this
        rw [this]
        exact Nat.gcd_dvd_left _ _
      rw [h1] at h2
      rw [Nat.dvd_one.mp h2]
      rfl
    · refine st_next ⟨_, rfl, rfl⟩
  · rintro L2 Γ2 ⟨s, rfl, rfl⟩
    refine st_ret (ev_var rfl ⟨u, rfl, ?_⟩)
    rw [List.length_map, List.take_length]
theorem ok_content (T : Tx K mg) : FnOk P w K mg base CX0 1 T.a_content T.d_content p_content (sp_content K) := by
  refine T.F_content.ok sc_content (fun vs H Q E h => len_content K vs H Q E h) (fun cdv A outer s H vs Q E hr h => ?_)
  exact ⟨t_content K, (pss_cons (ps_set (i := 1) sc_content.nd rfl (Or.inl rfl) pe_int)
  (pss_cons (ps_for PassesOwn.never rfl (pi_tup (pv 0)) (pg_name (i := 2) sc_content.nd rfl (Or.inl rfl)) (pss_cons (ps_set (i := 1) sc_content.nd rfl (Or.inl rfl) (pe_callBfun cr_gcd (by rfl) T.l_gcd (pa_cons (pv 1) (pa_cons (pv 2) pa_nil))))
  (pss_one (ps_if (pt_cmpR op_eq (pv 1) pe_int (nomark _)) (pss_one (ps_ret pe_int)) pss_nil))))
  (pss_one (ps_ret (pv 1))))), pure_content K vs H Q E h⟩
/-! ### shrunk -/
theorem at_lc {u : List Int} (h : u ≠ []) : atI (u.map PyData.int) (-1) = some (.int (lc u)) := by
  have l := List.length_pos_iff.mpr h
  rw [at_last (u.map PyData.int) (n := u.length - 1) (by rw [List.length_map]; omega), List.getElem?_map]
  unfold lc
  rw [List.getD_eq_getElem?_getD, List.getElem?_eq_getElem (by omega)]
  rfl
theorem rowD_inj {u v : List Int} (h : rowD u = rowD v) : u = v := map_int_inj (PyData.tuple.inj h)
theorem cdx {g : Int} (h : g ≠ 0) (b : g.natAbs < 2 ^ 8999) (i : Int) : CDivX i g := ⟨h, .inl (by
  have := lg b
  omega)⟩

def pre_shrunk : List PyData → Prop := fun ds => ∃ (u : List Int) (g : Int), ds = [rowD u, .int g] ∧ u.length ≤ 400 ∧ g ≠ 0 ∧ g.natAbs < 2 ^ 8999 ∧ ∀ x ∈ u, g ∣ x
def post_shrunk : List PyData → PyData → Prop := fun ds d => ∃ (u : List Int) (g : Int), ds = [rowD u, .int g] ∧ d = rowD (u.map fun x => x / g)
abbrev sp_shrunk (K : PySem.W.Frag) : Sp := SpP K pre_shrunk post_shrunk
theorem len_shrunk (K : PySem.W.Frag) (vs : List V) (H : Hp) (Q : VK) (E : XK) (h : sp_shrunk K vs H Q E) : vs.length = p_shrunk.length := len_P (n := 2) h fun ds hp => by
  obtain ⟨u, g, e, hl, g0, gb, hd⟩ := hp
  rw [e]; rfl
def t_shrunk (K : PySem.W.Frag) : TS :=
  (tRet (tCB (rTupleQ K) (tCons (tLc (iTup K (tVar 0)) (gName 2) tYes (tOp rFdX (tVar 2) (tVar 1)) [2]) tNil)))
theorem pure_shrunk (K : PySem.W.Frag) (vs : List V) (H : Hp) (Q : VK) (E : XK) (h : sp_shrunk K vs H Q E) : t_shrunk K { nx := fun _ H' => Q .non H', rt := Q } (L2.start N_shrunk vs) H := body_P h fun B ds hW hp => by
  obtain ⟨u, g, e, hl, g0, gb, hd⟩ := hp
  subst e
  unfold t_shrunk
  refine st_ret (ev_cb (ea_cons (ev_new (en_lcT (wipe1 2) (ev_var rfl ⟨u.map .int, rfl, by simp; omega, fun i acc => acc = ((u.take i).map fun x => PyData.int (x / g)), ⟨rfl, fun i D d' acc hi hJ hin => ?_⟩, fun acc hJ => ?_⟩)))))
  · obtain ⟨x, hx, rfl⟩ : ∃ x, u[i]? = some x ∧ d' = .int x := map_get hi
    refine et_yes ⟨fun _ => ?_, fun z => nomatch z⟩
    refine ev_op (ev_var rfl (ev_var rfl (ro_fdX (cdx g0 gb x) ?_)))
    rw [Int.fdiv_eq_ediv_of_dvd (hd x (List.mem_of_getElem? hx))]
    subst hJ
    rw [List.take_add_one, hx, List.map_append]
    rfl
  · refine ea_nil (co_tupL ⟨u, g, rfl, ?_⟩)
    rw [hJ, List.length_map, List.take_length]
    unfold rowD
    rw [List.map_map]
    rfl
theorem ok_shrunk (T : Tx K mg) : FnOk P w K mg base CX0 1 T.a_shrunk T.d_shrunk p_shrunk (sp_shrunk K) := by
  refine T.F_shrunk.ok sc_shrunk (fun vs H Q E h => len_shrunk K vs H Q E h) (fun cdv A outer s H vs Q E hr h => ?_)
  exact ⟨t_shrunk K, (pss_one (ps_ret (pe_callTy call_tuple_of (by rfl) T.n_tuple (by decide +kernel) (pa_cons (pe_lc (own := [("number", 2)]) (by rfl) sc_shrunk.nd (pi_tup (pv 0)) (blkOk_by (own := [("number", 2)]) (N := N_shrunk) (sc := defScope s_shrunk) (by decide +kernel)) (fun _ _ _ _ _ => pg_name (i := 2) sc_shrunk.nd rfl (Or.inl rfl)) (fun _ _ _ _ _ => pts_nil) (fun _ _ _ _ _ => (pe_op op_fdX (pv 2) (pv 1)))) pa_nil)))), pure_shrunk K vs H Q E h⟩
/-! ### thinned -/
theorem two_inj {u v : List Int} {a b : Int} (h : [rowD u, PyData.int a] = [rowD v, .int b]) : u = v ∧ a = b := by
  simp only [List.cons.injEq, and_true, PyData.int.injEq] at h
  exact ⟨rowD_inj h.1, h.2⟩
theorem one_inj {u v : List Int} (h : [PyData.tuple (u.map .int)] = [.tuple (v.map .int)]) : u = v := rowD_inj (List.cons.inj h).1
theorem gcd_bd {u : List Int} {e : Nat} (hb : bd u e) (hn : ∃ x ∈ u, x ≠ 0) : 0 < gcdL u ∧ gcdL u < 2 ^ e := by
  have hg := gcdL_pos hn
  obtain ⟨x, hx, hx0⟩ := hn
  have h1 := Int.natAbs_dvd_natAbs.mpr (gcdL_dvd hx)
  have h2 := Nat.le_of_dvd (by omega) h1
  have := hb x hx
  rw [Int.natAbs_natCast] at h2
  exact ⟨hg, by omega⟩

def pre_thinned : List PyData → Prop := fun ds => ∃ u : List Int, ds = [.tuple (u.map .int)] ∧ u.length ≤ 400 ∧ bd u 4000 ∧ ∃ x ∈ u, x ≠ 0
def post_thinned : List PyData → PyData → Prop := fun ds d => ∃ u : List Int, ds = [.tuple (u.map .int)] ∧ d = .tuple ((prim u).map .int)
abbrev sp_thinned (K : PySem.W.Frag) : Sp := SpP K pre_thinned post_thinned
theorem len_thinned (K : PySem.W.Frag) (vs : List V) (H : Hp) (Q : VK) (E : XK) (h : sp_thinned K vs H Q E) : vs.length = p_thinned.length := len_P (n := 1) h fun ds hp => by
  obtain ⟨u, e, hl, hb, hn⟩ := hp
  rw [e]; rfl
def t_thinned (K : PySem.W.Frag) : TS :=
  (tRet (tCall (sp_shrunk K) [] E0 (tCons (tVar 0) (tCons (tCall (sp_content K) [] E0 (tCons (tVar 0) tNil)) tNil))))
theorem pure_thinned (K : PySem.W.Frag) (vs : List V) (H : Hp) (Q : VK) (E : XK) (h : sp_thinned K vs H Q E) : t_thinned K { nx := fun _ H' => Q .non H', rt := Q } (L2.start N_thinned vs) H := body_P h fun B ds hW hp => by
  obtain ⟨u, e, hl, hb, hn⟩ := hp
  subst e
  unfold t_thinned
  refine st_ret (ev_callP (ea_cons (ev_var rfl (ea_cons (ev_callP (ea_cons (ev_var rfl (ea_nil ⟨⟨u, rfl, hl⟩, fun d ⟨v, ev, ed⟩ => ?_⟩))))))))
  obtain rfl := one_inj ev
  subst ed
  obtain ⟨g0, gb⟩ := gcd_bd hb hn
  refine ea_nil ⟨⟨u, _, rfl, hl, by omega, by rw [Int.natAbs_natCast]; exact pow_up gb (by decide), fun x hx => gcdL_dvd hx⟩, fun d ⟨v, g, ev, ed⟩ => ?_⟩
  obtain ⟨rfl, rfl⟩ := two_inj ev
  exact ⟨u, rfl, ed⟩
theorem ok_thinned (T : Tx K mg) : FnOk P w K mg base CX0 2 T.a_thinned T.d_thinned p_thinned (sp_thinned K) := by
  refine T.F_thinned.ok sc_thinned (fun vs H Q E h => len_thinned K vs H Q E h) (fun cdv A outer s H vs Q E hr h => ?_)
  exact ⟨t_thinned K, (pss_one (ps_ret (pe_call (ok_shrunk T) (hr.mono (by decide)) rfl T.g_shrunk T.F_shrunk.kp (b_shrunk T) .nil pass0 (pa_cons (pv 0) (pa_cons (pe_call (ok_content T) (hr.mono (by decide)) rfl T.g_content T.F_content.kp (b_content T) .nil pass0 (pa_cons (pv 0) pa_nil)) pa_nil))))), pure_thinned K vs H Q E h⟩
/-! ### reduced -/

def pre_reduced : List PyData → Prop := fun ds => ∃ u : List Int, ds = [rowD u] ∧ u.length ≤ 400 ∧ gcdL u < 2 ^ 8999 ∧ u.getLast? ≠ some 0 ∧ u ≠ []
def post_reduced : List PyData → PyData → Prop := fun ds d => ∃ u : List Int, ds = [rowD u] ∧ d = rowD (rdc u)
abbrev sp_reduced (K : PySem.W.Frag) : Sp := SpP K pre_reduced post_reduced
theorem len_reduced (K : PySem.W.Frag) (vs : List V) (H : Hp) (Q : VK) (E : XK) (h : sp_reduced K vs H Q E) : vs.length = p_reduced.length := len_P (n := 1) h fun ds hp => by
  obtain ⟨u, e, hl, gb, tu, un⟩ := hp
  rw [e]; rfl
def t_reduced (K : PySem.W.Frag) : TS :=
  (tSeq (tAsg (tCall (sp_content K) [] E0 (tCons (tVar 0) tNil)) (gName 1))
  (tRet (tCall (sp_shrunk K) [] E0 (tCons (tVar 0) (tCons (tIf (tTest (tOp (rI0 fun i j => .bl (decide (i < j))) (tOp (rIx K) (tVar 0) (tUn (rU fun i => .int (-i)) (tC (.int 1)))) (tC (.int 0)))) (tUn (rU fun i => .int (-i)) (tVar 1)) (tVar 1)) tNil)))))
theorem pure_reduced (K : PySem.W.Frag) (vs : List V) (H : Hp) (Q : VK) (E : XK) (h : sp_reduced K vs H Q E) : t_reduced K { nx := fun _ H' => Q .non H', rt := Q } (L2.start N_reduced vs) H := body_P h fun B ds hW hp => by
  obtain ⟨u, e, hl, gb, tu, un⟩ := hp
  subst e
  unfold t_reduced
  refine st_seq (st_asg (ev_callP (ea_cons (ev_var rfl (ea_nil ⟨⟨u, rfl, hl⟩, fun d ⟨w, ew, ed⟩ => ?_⟩)))))
  obtain rfl := one_inj ew
  subst ed
  have l0 := lc_ne tu un
  have nz : ∃ x ∈ u, x ≠ 0 := ⟨_, mem_getD l0, l0⟩
  have g0 := gcdL_pos nz
  have fin : ∀ s : Int, s = (if lc u < 0 then - ((gcdL u : Nat) : Int) else ((gcdL u : Nat) : Int)) → pre_shrunk [rowD u, .int s] ∧ ∀ d, post_shrunk [rowD u, .int s] d → post_reduced [rowD u] d := fun s hs => by
    have s0 : s ≠ 0 := by rw [hs]; split <;> omega
    have sa : s.natAbs = gcdL u := by rw [hs]; split <;> omega
    refine ⟨⟨u, s, rfl, hl, s0, by rw [sa]; exact gb, fun x hx => ?_⟩, fun d ⟨w, g, ew, ed⟩ => ?_⟩
    · have := gcdL_dvd hx
      rw [hs]
      split
      · exact Int.neg_dvd.mpr this
      · exact this
    · obtain ⟨rfl, rfl⟩ := two_inj ew
      refine ⟨u, rfl, ?_⟩
      rw [ed, hs]
      rfl
  refine st_ret (ev_callP (ea_cons (ev_var rfl (ea_cons (ev_if (et_test (ev_op (ev_op (ev_var rfl (ev_un (ev_int (uok_neg (rok_ixsT (at_lc un) (ev_int (rok_b0 ⟨_, rfl, fun hb => ?_, fun hb => ?_⟩)))))))))))))))
  · have q := of_decide_eq_true hb
    exact ev_un (ev_var rfl (uok_neg (ea_nil (fin _ (by rw [if_pos q])))))
  · have q := of_decide_eq_false hb
    exact ev_var rfl (ea_nil (fin _ (by rw [if_neg q])))
theorem ok_reduced (T : Tx K mg) : FnOk P w K mg base CX0 2 T.a_reduced T.d_reduced p_reduced (sp_reduced K) := by
  refine T.F_reduced.ok sc_reduced (fun vs H Q E h => len_reduced K vs H Q E h) (fun cdv A outer s H vs Q E hr h => ?_)
  exact ⟨t_reduced K, (pss_cons (ps_set (i := 1) sc_reduced.nd rfl (Or.inl rfl) (pe_call (ok_content T) (hr.mono (by decide)) rfl T.g_content T.F_content.kp (b_content T) .nil pass0 (pa_cons (pv 0) pa_nil)))
  (pss_one (ps_ret (pe_call (ok_shrunk T) (hr.mono (by decide)) rfl T.g_shrunk T.F_shrunk.kp (b_shrunk T) .nil pass0 (pa_cons (pv 0) (pa_cons (pe_ifExp (pt_cmpR op_lt (pe_ix ix_seq (pv 0) (pe_un un_neg pe_int) (fun _ _ => rfl)) pe_int (nomark _)) (pe_un un_neg (pv 1)) (pv 1)) pa_nil)))))), pure_reduced K vs H Q E h⟩
/-! ### whole_quotient -/
theorem row2_inj {u v a b : List Int} (h : [rowD u, rowD v] = [rowD a, rowD b]) : u = a ∧ v = b := by
  simp only [List.cons.injEq, and_true] at h
  exact ⟨rowD_inj h.1, rowD_inj h.2⟩
theorem any_zero {ns : List Int} (h : (ns.map PyData.int).any PyData.truthy = false) (k : Nat) : ns.getD k 0 = 0 := by
  by_cases q : k < ns.length
  · refine Classical.byContradiction fun ne => ?_
    rw [any_true (in_getD q) ne] at h
    cases h
  · exact getD_out (by omega)
theorem any_some {ns : List Int} (h : (ns.map PyData.int).any PyData.truthy = true) (z : ∀ k, ns.getD k 0 = 0) : False := by
  rw [List.any_eq_true] at h
  obtain ⟨d, hd, ht⟩ := h
  obtain ⟨n, hn, rfl⟩ := List.mem_map.mp hd
  obtain ⟨k, hk⟩ := mem_get hn
  rw [z k] at hk
  rw [← hk] at ht
  simp [PyData.truthy] at ht

def pre_whole_quotient : List PyData → Prop := fun ds => ∃ u v : List Int, ds = [rowD u, rowD v] ∧ v ≠ [] ∧ 0 < lc v ∧ (lc v).natAbs < 2 ^ 8999 ∧ u.length ≤ 40 ∧ v.length ≤ 40 ∧ n1 u < 2 ^ 9800 ∧ n1 v < 2 ^ 9800
def post_whole_quotient : List PyData → PyData → Prop := fun ds d => ∃ u v : List Int, ds = [rowD u, rowD v] ∧ ((d = .none ∧ ¬ ∃ Q, ∀ x, pI u x = pI v x * pI Q x) ∨ ∃ Q : List Int, d = rowD Q ∧ (∀ x, pI u x = pI v x * pI Q x) ∧ Q.length = u.length + 1 - v.length)
abbrev sp_whole_quotient (K : PySem.W.Frag) : Sp := SpP K pre_whole_quotient post_whole_quotient
theorem len_whole_quotient (K : PySem.W.Frag) (vs : List V) (H : Hp) (Q : VK) (E : XK) (h : sp_whole_quotient K vs H Q E) : vs.length = p_whole_quotient.length := len_P (n := 2) h fun ds hp => by
  obtain ⟨u, v, e, vn, l0, lb, hu, hv, nu, nv⟩ := hp
  rw [e]; rfl
def t_whole_quotient (K : PySem.W.Frag) : TS :=
  (tSeq (tAsg (tCB (rListQ K) (tCons (tVar 0) tNil)) (gName 2))
  (tSeq (tAsg (tOp (rIx K) (tVar 1) (tUn (rU fun i => .int (-i)) (tC (.int 1)))) (gName 3))
  (tSeq (tAsg (tOp (rI0 fun i j => .int (i - j)) (tCB (rLenQ K) (tCons (tVar 1) tNil)) (tC (.int 1))) (gName 4))
  (tSeq (tAsg (tLst tNil) (gName 5))
  (tSeq (tFor (iRng3 (tCons (tOp (rI0 fun i j => .int (i - j)) (tOp (rI0 fun i j => .int (i - j)) (tCB (rLenQ K) (tCons (tVar 0) tNil)) (tC (.int 1))) (tVar 4)) (tCons (tUn (rU fun i => .int (-i)) (tC (.int 1))) (tCons (tUn (rU fun i => .int (-i)) (tC (.int 1))) tNil)))) (gName 6) (tSeq (tAsg (tCB rDivmodQ (tCons (tOp (rIx K) (tVar 2) (tOp (rAddA K) (tVar 6) (tVar 4))) (tCons (tVar 3) tNil))) (gTup K 2 (gCons (gName 7) (gCons (gName 8) gNil))))
  (tSeq (tIfS (tTru K (tVar 8)) (tRet (tC .non)) tNext)
  (tSeq (tDrop (tBM K "list" rAppend (tVar 5) (tCons (tVar 7) tNil)))
  (tFor (iEnumT K (tCons (tVar 1) tNil)) (gTup K 2 (gCons (gName 9) (gCons (gName 10) gNil))) (tAugS (tVar 2) (tOp (rAddA K) (tVar 6) (tVar 9)) (tOp (rMulA K) (tVar 7) (tVar 10)) (rGetL K) (ipI fun i j => i - j) rSetL))))))
  (tSeq (tIfS (tB (tCB (rAnyL K) (tCons (tVar 2) tNil))) (tRet (tC .non)) tNext)
  (tRet (tCB (rTupleQ K) (tCons (tRevL K (tVar 5)) tNil)))))))))
theorem pure_whole_quotient (K : PySem.W.Frag) (vs : List V) (H : Hp) (Q : VK) (E : XK) (h : sp_whole_quotient K vs H Q E) : t_whole_quotient K { nx := fun _ H' => Q .non H', rt := Q } (L2.start N_whole_quotient vs) H := body_P h fun B ds hW hp => by
  obtain ⟨u, v, e, vn, l0, lb, hu, hv, nu, nv⟩ := hp
  subst e
  unfold t_whole_quotient
  have vl := List.length_pos_iff.mpr vn
  refine st_seq (st_own (en_listQ (ev_var rfl ⟨u.map .int, .inl rfl, fun l2 => ?_⟩)))
  refine st_seq (st_asg (ev_op (ev_var rfl (ev_un (ev_int (uok_neg (rok_ixsT (at_lc vn) ?_)))))))
  refine st_seq (st_asg (ev_op (ev_cb (ea_cons (ev_var rfl (ea_nil (co_lenT (ev_int (rok_i0 ?_)))))))))
  rw [List.length_map]
  refine st_seq (st_own (en_lst (ea_nil ⟨by simp, fun l5 => ?_⟩)))
  refine st_ne (i := 2) (j := 5) rfl rfl (by decide) fun ne => ?_
  have eb : ∀ i, i ≤ 40 → 9800 + 9802 * i ≤ 410000 := fun i hi => by omega
  refine st_seq (st_forRd (ea_cons (ev_op (ev_op (ev_cb (ea_cons (ev_var rfl (ea_nil (co_lenT (ev_int (rok_i0 (ev_var rfl (rok_i0 ?_)))))))))) )))
  rw [List.length_map]
  have cnt : ((u.length : Int) - 1 - ((v.length : Int) - 1) - -1).toNat = u.length + 1 - v.length := by omega
  refine ea_cons (ev_un (ev_int (uok_neg (ea_cons (ev_un (ev_int (uok_neg (ea_nil ⟨(u.length : Int) - 1 - ((v.length : Int) - 1), -1, rfl, by omega, by omega, by decide, by decide, fun i L2 Γ2 => ∃ (W q : List Int) (s6 s7 s8 s9 s10 : Sl), L2 = [l5, l2] ∧ Γ2 = [.d (rowD u), .d (rowD v), .own l2 (W.map .int), .d (.int (lc v)), .d (.int ((v.length : Int) - 1)), .own l5 (q.map .int), s6, s7, s8, s9, s10] ∧ W.length = u.length ∧ q.length = i ∧ i ≤ u.length + 1 - v.length ∧ (∀ x, pI u x = pI v x * pI (sft (u.length + 1 - v.length - i) q.reverse) x + pI W x) ∧ (∀ k, u.length ≤ k + i → W.getD k 0 = 0) ∧ n1 W < 2 ^ (9800 + 9802 * i), ⟨u, [], _, _, _, _, _, rfl, rfl, rfl, rfl, Nat.zero_le _, fun x => ?_, fun k hk => getD_out (by omega), nu⟩, ?_, ?_⟩))))))))
  · rw [List.reverse_nil, sft_pI, pI_nil]
    grind
  · rintro i L2 Γ2 hi ⟨W, q, s6, s7, s8, s9, s10, rfl, rfl, lW, lq, iq, rel, zW, nW⟩
    rw [cnt] at hi
    obtain ⟨s, hs⟩ : ∃ s, u.length + 1 - v.length - i = s + 1 := ⟨u.length + 1 - v.length - i - 1, by omega⟩
    have ep : (u.length : Int) - 1 - ((v.length : Int) - 1) - (i : Int) = (s : Int) := by omega
    rw [ep]
    rw [hs] at rel
    have ib := eb i (by omega)
    have ix : s + (v.length - 1) < W.length := by omega
    have aW : atI (W.map PyData.int) ((s : Int) + ((v.length : Int) - 1)) = some (.int (W.getD (s + (v.length - 1)) 0)) := by
      rw [show (s : Int) + ((v.length : Int) - 1) = ((s + (v.length - 1) : Nat) : Int) by omega]
      exact ints_at ix 0
    obtain ⟨w, hw⟩ : ∃ w, w = W.getD (s + (v.length - 1)) 0 := ⟨_, rfl⟩
    rw [← hw] at aW
    have wb : w.natAbs < 2 ^ (9800 + 9802 * i) := by
      rw [hw]
      exact Nat.lt_of_le_of_lt (n1_get W _) nW
    have tb : (w / lc v).natAbs < 2 ^ (9800 + 9802 * i) := Nat.lt_of_le_of_lt (Int.natAbs_ediv_le_natAbs w (lc v)) wb
    have lb2 : (lc v).natAbs.log2 < 9000 := by
      have := lg lb
      omega
    have zt : ∀ k, s + (v.length - 1) < k → W.getD k 0 = 0 := fun k hk => zW k (by omega)
    refine st_seq (st_unpack (ev_cb (ea_cons (ev_ixOwn rfl (ev_op (ev_var rfl (ev_var rfl (ro_add ⟨_, _, rfl, aW, ea_cons (ev_var rfl (ea_nil (cok_divmod l0 (.inl lb2) ⟨_, rfl, rfl, tg_cons (tg_cons (tg_nil ?_))⟩)))⟩))))))))
    refine st_seq (st_if (et_tru (ev_var rfl ⟨trivial, fun hb => ?_, fun hb => st_next ?_⟩)))
    · have hb : (w % lc v != 0) = true := hb
      refine st_ret (ev_non ⟨u, v, rfl, .inl ⟨rfl, fun hQ => ?_⟩⟩)
      have := wq_div (by omega) rel hQ zt
      rw [← hw] at this
      have := Int.emod_eq_zero_of_dvd this
      rw [this] at hb
      cases hb
    · have hb : (w % lc v != 0) = false := hb
      have hb : w % lc v = 0 := by simpa using hb
      have we : w / lc v * lc v = w := by
        have := Int.emod_add_mul_ediv w (lc v)
        rw [hb] at this
        rw [Int.mul_comm]
        omega
      refine st_seq (st_append rfl (by rw [List.length_map]; omega) (ev_var rfl ?_))
      have em : q.map PyData.int ++ [.int (w / lc v)] = (q ++ [w / lc v]).map .int := by rw [List.map_append]; rfl
      rw [em]
      refine st_forE (ea_cons (ev_var rfl (ea_nil ⟨v.map .int, rfl, fun j L3 Γ3 => ∃ (V : List Int) (s9 s10 : Sl), L3 = [l5, l2] ∧ Γ3 = [.d (rowD u), .d (rowD v), .own l2 (V.map .int), .d (.int (lc v)), .d (.int ((v.length : Int) - 1)), .own l5 ((q ++ [w / lc v]).map .int), .d (.int (s : Int)), .d (.int (w / lc v)), .d (.int (w % lc v)), s9, s10] ∧ V.length = W.length ∧ ∀ k, V.getD k 0 = if s ≤ k ∧ k < s + j then W.getD k 0 - w / lc v * v.getD (k - s) 0 else W.getD k 0, ⟨W, _, _, rfl, rfl, rfl, fun k => by rw [if_neg (by omega)]⟩, ?_, ?_⟩)))
      · rintro j d' L3 Γ3 g hj ⟨V, s9, s10, rfl, rfl, lV, gV⟩
        obtain ⟨y, hy, rfl⟩ : ∃ y, v[j]? = some y ∧ d' = .int y := map_get hj
        have jl := (List.getElem?_eq_some_iff.mp hy).1
        have gy : v.getD j 0 = y := by rw [List.getD_eq_getElem?_getD, hy]; rfl
        have yb : y.natAbs < 2 ^ 9800 := by rw [← gy]; exact Nat.lt_of_le_of_lt (n1_get v j) nv
        have jb : s + j < V.length := by omega
        have aV : (V.map PyData.int)[s + j]? = some (.int (V.getD (s + j) 0)) := by
          rw [List.getElem?_map, List.getD_eq_getElem?_getD, List.getElem?_eq_getElem jb]
          rfl
        refine st_subOwn rfl (ev_op (ev_var rfl (ev_var rfl (ro_add ⟨s + j, V.getD (s + j) 0, by rw [Int.natCast_add], aV, ev_op (ev_var rfl (ev_var rfl (ro_mulW (mulW_of (pow_up tb ib) yb (by decide)) ⟨_, rfl, V.set (s + j) (V.getD (s + j) 0 - w / lc v * y), .d (.int (j : Int)), .d (.int y), rfl, ?_, by rw [List.length_set]; exact lV, fun k => ?_⟩)))⟩))))
        · rw [List.map_set]
          rfl
        · rw [set_getD _ jb]
          by_cases q1 : k = s + j
          · rw [if_pos q1, if_pos (by omega), gV, if_neg (by omega), q1, show s + j - s = j by omega, gy]
          · rw [if_neg q1, gV]
            by_cases q2 : s ≤ k ∧ k < s + j
            · rw [if_pos q2, if_pos (by omega)]
            · rw [if_neg q2, if_neg (by omega)]
      · rintro L3 Γ3 ⟨V, s9, s10, rfl, rfl, lV, gV⟩
        rw [List.length_map] at gV
        obtain ⟨r1, r2⟩ := wq_step rel gV
        refine ⟨V, q ++ [w / lc v], _, _, _, s9, s10, rfl, rfl, by omega, by simp [lq], by omega, fun x => ?_, fun k hk => ?_, ?_⟩
        · rw [List.reverse_append]
          have : u.length + 1 - v.length - (i + 1) = s := by omega
          rw [this]
          exact r1 x
        · rw [gV]
          by_cases q1 : s ≤ k ∧ k < s + v.length
          · rw [if_pos q1]
            have ek : k = s + (v.length - 1) := by omega
            rw [ek, ← hw, show s + (v.length - 1) - s = v.length - 1 by omega]
            show w - w / lc v * lc v = 0
            omega
          · rw [if_neg q1]
            exact zW k (by omega)
        · have a1 : (w / lc v).natAbs * n1 v < 2 ^ (9800 + 9802 * i + 9800) := mul_bd tb nv
          have a2 : 2 ^ (9800 + 9802 * i) ≤ 2 ^ (9800 + 9802 * i + 9800) := Nat.pow_le_pow_right (by decide) (by omega)
          have a3 : 2 ^ (9800 + 9802 * i + 9801) = 2 ^ (9800 + 9802 * i + 9800) + 2 ^ (9800 + 9802 * i + 9800) := by rw [show 9800 + 9802 * i + 9801 = 9800 + 9802 * i + 9800 + 1 by omega, Nat.pow_succ]; omega
          exact pow_up (show n1 V < 2 ^ (9800 + 9802 * i + 9801) by omega) (by omega)
  · rintro L2 Γ2 ⟨W, q, s6, s7, s8, s9, s10, rfl, rfl, lW, lq, iq, rel, zW, nW⟩
    rw [cnt] at rel zW lq
    rw [Nat.sub_self] at rel
    refine st_freeze 5 rfl (by simp; exact fun z => ne z.symm) (st_freeze 2 rfl (by simp) ?_)
    refine st_seq (st_if (et_B (ev_cb (ea_cons (ev_var rfl (ea_nil (cok_anyL ⟨_, rfl, fun hb => ?_, fun hb => st_next ?_⟩)))))))
    · refine st_ret (ev_non ⟨u, v, rfl, .inl ⟨rfl, fun hQ => any_some hb (wq_zero (by omega) rel hQ fun k hk => ?_)⟩⟩)
      by_cases q1 : u.length ≤ k
      · exact getD_out (by omega)
      · exact zW k (by omega)
    · have z := any_zero hb
      refine st_ret (ev_cb (ea_cons (ev_revL (ev_var rfl ⟨_, rfl, ea_nil (co_tupL ⟨u, v, rfl, .inr ⟨q.reverse, ?_, fun x => ?_, by rw [List.length_reverse]; omega⟩⟩)⟩))))
      · unfold rowD
        rw [List.map_reverse]
      · have e0 : pI W x = 0 := by
          rw [pI_ext (u := W) (v := []) fun k => by rw [z k, getD_out (u := []) (Nat.zero_le _)]]
          rfl
        rw [rel, e0, sft_pI, Rat.pow_zero]
        grind
theorem ok_whole_quotient (T : Tx K mg) : FnOk P w K mg base CX0 1 T.a_whole_quotient T.d_whole_quotient p_whole_quotient (sp_whole_quotient K) := by
  refine T.F_whole_quotient.ok sc_whole_quotient (fun vs H Q E h => len_whole_quotient K vs H Q E h) (fun cdv A outer s H vs Q E hr h => ?_)
  exact ⟨t_whole_quotient K, (pss_cons (ps_set (i := 2) sc_whole_quotient.nd rfl (Or.inl rfl) (pe_callTy call_list_of (by rfl) T.n_list (by decide +kernel) (pa_cons (pv 0) pa_nil)))
  (pss_cons (ps_set (i := 3) sc_whole_quotient.nd rfl (Or.inl rfl) (pe_ix ix_seq (pv 1) (pe_un un_neg pe_int) (fun _ _ => rfl)))
  (pss_cons (ps_set (i := 4) sc_whole_quotient.nd rfl (Or.inl rfl) (pe_op op_sub (pe_callB call_len_seq (by rfl) T.n_len (by decide +kernel) (pa_cons (pv 1) pa_nil)) pe_int))
  (pss_cons (ps_set (i := 5) sc_whole_quotient.nd rfl (Or.inl rfl) (pe_lst pa_nil))
  (pss_cons (ps_for PassesOwn.never rfl (pi_range3 (by rfl) T.n_range (pa_cons (pe_op op_sub (pe_op op_sub (pe_callB call_len_seq (by rfl) T.n_len (by decide +kernel) (pa_cons (pv 0) pa_nil)) pe_int) (pv 4)) (pa_cons (pe_un un_neg pe_int) (pa_cons (pe_un un_neg pe_int) pa_nil)))) (pg_name (i := 6) sc_whole_quotient.nd rfl (Or.inl rfl)) (pss_cons (ps_asg (pe_callB call_divmodW (by rfl) T.n_divmod (by decide +kernel) (pa_cons (pe_ix ix_seq (pv 2) (pe_op op_addA (pv 6) (pv 4)) (fun _ _ => rfl)) (pa_cons (pv 3) pa_nil))) (pg_tup (by rfl) (pgs_cons (pg_name (i := 7) sc_whole_quotient.nd rfl (Or.inl rfl)) (pgs_cons (pg_name (i := 8) sc_whole_quotient.nd rfl (Or.inl rfl)) pgs_nil))))
  (pss_cons (ps_if (pt_truth (pv 8) (by intro _; rfl)) (pss_one (ps_ret pe_non)) pss_nil)
  (pss_cons (ps_expr (pe_bm PySem.F.plainAttrs_list PySem.F.slot_list_append PySem.F.type_list_append mt_append (pv 5) (pa_cons (pv 7) pa_nil)))
  (pss_one (ps_for PassesOwn.never rfl (pi_enumT (by rfl) T.n_enumerate (pa_cons (pv 1) pa_nil)) (pg_tup (by rfl) (pgs_cons (pg_name (i := 9) sc_whole_quotient.nd rfl (Or.inl rfl)) (pgs_cons (pg_name (i := 10) sc_whole_quotient.nd rfl (Or.inl rfl)) pgs_nil))) (pss_one (ps_augS (pv 2) (pe_op op_addA (pv 6) (pv 9)) get_list (pe_op op_mulA (pv 7) (pv 10)) ip_sub set_list))))))))
  (pss_cons (ps_if (pt_val (pe_callB (cr_anyL rfl) (by rfl) T.n_any (by decide +kernel) (pa_cons (pv 2) pa_nil))) (pss_one (ps_ret pe_non)) pss_nil)
  (pss_one (ps_ret (pe_callTy call_tuple_of (by rfl) T.n_tuple (by decide +kernel) (pa_cons (pe_revL (pv 5)) pa_nil)))))))))), pure_whole_quotient K vs H Q E h⟩
/-! ### scaled_value -/

def pre_scaled_value : List PyData → Prop := fun ds => ∃ (u : List Int) (t b : Int), ds = [rowD u, .int t, .int b] ∧ u.length ≤ 30 ∧ bd u 300 ∧ t.natAbs < 2 ^ 300 ∧ b.natAbs < 2 ^ 300
def post_scaled_value : List PyData → PyData → Prop := fun ds d => ∃ (u : List Int) (t b : Int), ds = [rowD u, .int t, .int b] ∧ d = .int (hor t b u)
abbrev sp_scaled_value (K : PySem.W.Frag) : Sp := SpP K pre_scaled_value post_scaled_value
theorem len_scaled_value (K : PySem.W.Frag) (vs : List V) (H : Hp) (Q : VK) (E : XK) (h : sp_scaled_value K vs H Q E) : vs.length = p_scaled_value.length := len_P (n := 3) h fun ds hp => by
  obtain ⟨u, t, b, e, hl, hu, ht, hb⟩ := hp
  rw [e]; rfl
def t_scaled_value (K : PySem.W.Frag) : TS :=
  (tSeq (tAsg (tC (.int 0)) (gName 3))
  (tSeq (tAsg (tC (.int 1)) (gName 4))
  (tSeq (tFor (RT.iRevA K (tVar 0)) (gName 5) (tSeq (tAsg (tOp (rAddA K) (tOp (rMulA K) (tVar 3) (tVar 1)) (tOp (rMulA K) (tVar 5) (tVar 4))) (gName 3))
  (tAug 4 (tVar 2) ipM)))
  (tRet (tVar 3)))))
theorem pure_scaled_value (K : PySem.W.Frag) (vs : List V) (H : Hp) (Q : VK) (E : XK) (h : sp_scaled_value K vs H Q E) : t_scaled_value K { nx := fun _ H' => Q .non H', rt := Q } (L2.start N_scaled_value vs) H := body_P h fun B ds hW hp => by
  obtain ⟨u, t, b, e, hl, hu, ht, hb⟩ := hp
  subst e
  unfold t_scaled_value
  refine st_seq (st_asg (ev_int (st_seq (st_asg (ev_int ?_)))))
  refine st_seq (st_forRevT (ev_var rfl ⟨u.map .int, rfl, fun i L2 Γ2 => ∃ s5 : Sl, L2 = [] ∧ Γ2 = [.d (rowD u), .d (.int t), .d (.int b), .d (.int (hor t b (u.drop (u.length - i)))), .d (.int (b ^ i)), s5], ⟨.un, rfl, ?_⟩, ?_, ?_⟩))
  · rw [Nat.sub_zero, List.drop_length, Int.pow_zero]
    rfl
  · rintro i d' L2 Γ2 g hin hi ⟨s5, rfl, rfl⟩
    rw [List.length_map] at hin hi
    obtain ⟨x, hx, rfl⟩ : ∃ x, u[u.length - 1 - i]? = some x ∧ d' = .int x := map_get hi
    have bx := hu x (List.mem_of_getElem? hx)
    have bh := hor_bd ht hb (u.drop (u.length - i)) fun y hy => hu y (List.mem_of_mem_drop hy)
    have bp := natAbs_pow_lt hb i
    rw [List.length_drop] at bh
    have hle : (2 * 300 + 2) * (u.length - (u.length - i)) + 1 ≤ 60000 := by omega
    have hd : u.drop (u.length - (i + 1)) = x :: u.drop (u.length - i) := by
      rw [show u.length - (i + 1) = u.length - 1 - i by omega, List.drop_eq_getElem_cons (by omega), show u.length - 1 - i + 1 = u.length - i by omega]
      congr 1
      have := List.getElem?_eq_getElem (l := u) (i := u.length - 1 - i) (by omega)
      rw [hx] at this
      exact (Option.some.inj this).symm
    refine st_seq (st_asg ?_)
    walk_at "dd"
    refine ro_mulW (mulW_of (pow_up bh hle) ht (by decide)) ?_
    walk_at "dd"
    refine ro_mulW (mulW_of bx (pow_up bp (show 300 * i + 1 ≤ 60000 by omega)) (by decide)) ?_
    walk_at "dd"
    refine st_augM rfl (ev_var rfl ⟨b, rfl, mulW_of (pow_up bp (show 300 * i + 1 ≤ 60000 by omega)) hb (by decide), .d (.int x), rfl, ?_⟩)
    rw [hd]
    show [_, _, _, _, _, _] = [_, _, _, Sl.d (.int (hor t b (u.drop (u.length - i)) * t + x * b ^ (u.drop (u.length - i)).length)), _, _]
    rw [List.length_drop, show u.length - (u.length - i) = i by omega, Int.pow_succ]
  · rintro L2 Γ2 ⟨s5, rfl, rfl⟩
    refine st_ret (ev_var rfl ⟨u, t, b, rfl, ?_⟩)
    rw [List.length_map, Nat.sub_self, List.drop_zero]
theorem ok_scaled_value (T : Tx K mg) : FnOk P w K mg base CX0 1 T.a_scaled_value T.d_scaled_value p_scaled_value (sp_scaled_value K) := by
  refine T.F_scaled_value.ok sc_scaled_value (fun vs H Q E h => len_scaled_value K vs H Q E h) (fun cdv A outer s H vs Q E hr h => ?_)
  exact ⟨t_scaled_value K, (pss_cons (ps_set (i := 3) sc_scaled_value.nd rfl (Or.inl rfl) pe_int)
  (pss_cons (ps_set (i := 4) sc_scaled_value.nd rfl (Or.inl rfl) pe_int)
  (pss_cons (ps_for PassesOwn.never rfl (RT.pi_revA (by rfl) T.n_reversed (pv 0)) (pg_name (i := 5) sc_scaled_value.nd rfl (Or.inl rfl)) (pss_cons (ps_set (i := 3) sc_scaled_value.nd rfl (Or.inl rfl) (pe_op op_addA (pe_op op_mulA (pv 3) (pv 1)) (pe_op op_mulA (pv 5) (pv 4))))
  (pss_one (ps_aug (i := 4) sc_scaled_value.nd rfl (Or.inl rfl) (pv 2) ip_mul))))
  (pss_one (ps_ret (pv 3)))))), pure_scaled_value K vs H Q E h⟩
/-! ### fraction_value -/
theorem row3_inj {u v : List Int} {a b c d : Int} (h : [rowD u, .int a, .int b] = [rowD v, .int c, .int d]) : u = v ∧ a = c ∧ b = d := by
  unfold rowD at h
  simp only [List.cons.injEq, PyData.tuple.injEq, PyData.int.injEq, and_true] at h
  exact ⟨map_int_inj h.1, h.2.1, h.2.2⟩

def pre_fraction_value : List PyData → Prop := fun ds => ∃ (u : List Int) (p : Fr), ds = [rowD u, frD p] ∧ u.length ≤ 30 ∧ bd u 300 ∧ FOk p ∧ p.1.natAbs < 2 ^ 6 ∧ p.2.natAbs < 2 ^ 6
def post_fraction_value : List PyData → PyData → Prop := fun ds d => ∃ (u : List Int) (p r : Fr), ds = [rowD u, frD p] ∧ d = frD r ∧ FOk r ∧ val r = ev u (val p) ∧ r.1.natAbs ≤ (hor p.1 p.2 u).natAbs ∧ r.2.natAbs ≤ p.2.natAbs ^ (u.length - 1)
abbrev sp_fraction_value (K : PySem.W.Frag) : Sp := SpP K pre_fraction_value post_fraction_value
theorem len_fraction_value (K : PySem.W.Frag) (vs : List V) (H : Hp) (Q : VK) (E : XK) (h : sp_fraction_value K vs H Q E) : vs.length = p_fraction_value.length := len_P (n := 2) h fun ds hp => by
  obtain ⟨u, p, e, hl, hu, fp, ht, hb⟩ := hp
  rw [e]; rfl
def t_fraction_value (K : PySem.W.Frag) : TS :=
  (tSeq (tAsg (tC (.int 1)) (gName 2))
  (tSeq (tFor (iTup K (tSl (rSlX2 K) (tVar 0) (tPart (tC (.int 1))) tNoPart)) (gName 3) (tAug 2 (tOp (rIx K) (tVar 1) (tC (.int 1))) ipM))
  (tRet (tCall (sp_lowest K) [] E0 (tCons (tCall (sp_scaled_value K) [] E0 (tCons (tVar 0) (tCons (tOp (rIx K) (tVar 1) (tC (.int 0))) (tCons (tOp (rIx K) (tVar 1) (tC (.int 1))) tNil)))) (tCons (tVar 2) tNil))))))
theorem pure_fraction_value (K : PySem.W.Frag) (vs : List V) (H : Hp) (Q : VK) (E : XK) (h : sp_fraction_value K vs H Q E) : t_fraction_value K { nx := fun _ H' => Q .non H', rt := Q } (L2.start N_fraction_value vs) H := body_P h fun B ds hW hp => by
  obtain ⟨u, p, e, hl, hu, fp, ht, hb⟩ := hp
  subst e
  unfold t_fraction_value
  have p2 := fp.1
  refine st_seq (st_asg (ev_int ?_))
  have cutL : DL.cutD (u.map PyData.int) (some 1) none = (u.tail).map PyData.int := by
    unfold DL.cutD
    have s1 : HT.sIx (u.map PyData.int).length 0 (some 1) = min 1 u.length := by
      rw [show (1 : Int) = ((1 : Nat) : Int) by rfl, HT.sIx_nat, List.length_map]
    have s2 : HT.sIx (u.map PyData.int).length (u.map PyData.int).length none = u.length := by
      show (u.map PyData.int).length = u.length
      rw [List.length_map]
    rw [s1, s2]
    cases u with
    | nil => rfl
    | cons x xs =>
      rw [show min 1 (x :: xs).length = 1 by rw [List.length_cons]; omega]
      show ((xs.map PyData.int).take _) = _
      rw [List.take_of_length_le (by simp)]
      rfl
  refine st_seq (st_forT (ev_sl (ev_var rfl (eo_some (ev_int ⟨_, rfl, eo_no (so_tup ?_)⟩)))))
  rw [cutL]
  refine ⟨_, rfl, fun i L2 Γ2 => ∃ s : Sl, L2 = [] ∧ Γ2 = [.d (rowD u), .d (frD p), .d (.int (p.2 ^ i)), s], ⟨.un, rfl, by rw [Int.pow_zero]; rfl⟩, ?_, ?_⟩
  · rintro i d' L2 Γ2 g hi ⟨s, rfl, rfl⟩
    have hi2 := (List.getElem?_eq_some_iff.mp hi).1
    rw [List.length_map, List.length_tail] at hi2
    obtain ⟨x, hx, rfl⟩ : ∃ x, u.tail[i]? = some x ∧ d' = .int x := map_get hi
    refine st_augM rfl (ev_op (ev_var rfl (ev_int (rok_ixsT (d := .int p.2) rfl ⟨p.2, rfl, mulW_of (pow_up (natAbs_pow_lt hb i) (show 6 * i + 1 ≤ 10000 by omega)) hb (by decide), .d (.int x), rfl, ?_⟩))))
    rw [Int.pow_succ]
    rfl
  · rintro L2 Γ2 ⟨s, rfl, rfl⟩
    rw [List.length_map, List.length_tail]
    refine st_ret (ev_callP (ea_cons (ev_callP (ea_cons (ev_var rfl (ea_cons (ev_op (ev_var rfl (ev_int (rok_ixsT (d := .int p.1) rfl (ea_cons (ev_op (ev_var rfl (ev_int (rok_ixsT (d := .int p.2) rfl (ea_nil ⟨⟨u, p.1, p.2, rfl, by omega, hu, pow_up ht (by decide), pow_up hb (by decide)⟩, fun d ⟨u', t', b', e, ed⟩ => ?_⟩))))))))))))))))
    obtain ⟨rfl, rfl, rfl⟩ := row3_inj e
    subst ed
    have pp : 0 < p.2 ^ (u.length - 1) := Int.pow_pos p2
    refine ea_cons (ev_var rfl (ea_nil ⟨⟨_, _, rfl, pp, pow_up (natAbs_pow_lt hb _) (by omega)⟩, fun d ⟨n', m', en, r, ed, f, v, l1, l2⟩ => ?_⟩))
    simp only [List.cons.injEq, PyData.int.injEq, and_true] at en
    obtain ⟨rfl, rfl⟩ := en
    refine ⟨u, p, r, rfl, ed, f, ?_, l1, by rw [← Int.natAbs_pow]; exact l2⟩
    rw [v, hor_ev p2, Rat.intCast_pow]
    have := ratInt_ne (a := p.2 ^ (u.length - 1)) (by omega)
    rw [Rat.intCast_pow] at this
    unfold val
    grind
theorem ok_fraction_value (T : Tx K mg) : FnOk P w K mg base CX0 2 T.a_fraction_value T.d_fraction_value p_fraction_value (sp_fraction_value K) := by
  refine T.F_fraction_value.ok sc_fraction_value (fun vs H Q E h => len_fraction_value K vs H Q E h) (fun cdv A outer s H vs Q E hr h => ?_)
  exact ⟨t_fraction_value K, (pss_cons (ps_set (i := 2) sc_fraction_value.nd rfl (Or.inl rfl) pe_int)
  (pss_cons (ps_for PassesOwn.never rfl (pi_tup (pe_slice sl_any (pv 0) (po_some pe_int) po_none)) (pg_name (i := 3) sc_fraction_value.nd rfl (Or.inl rfl)) (pss_one (ps_aug (i := 2) sc_fraction_value.nd rfl (Or.inl rfl) (pe_ix ix_seq (pv 1) pe_int (fun _ _ => rfl)) ip_mul)))
  (pss_one (ps_ret (pe_call (ok_lowest T) (hr.mono (by decide)) rfl T.g_lowest T.F_lowest.kp (b_lowest T) .nil pass0 (pa_cons (pe_call (ok_scaled_value T) (hr.mono (by decide)) rfl T.g_scaled_value T.F_scaled_value.kp (b_scaled_value T) .nil pass0 (pa_cons (pv 0) (pa_cons (pe_ix ix_seq (pv 1) pe_int (fun _ _ => rfl)) (pa_cons (pe_ix ix_seq (pv 1) pe_int (fun _ _ => rfl)) pa_nil)))) (pa_cons (pv 2) pa_nil))))))), pure_fraction_value K vs H Q E h⟩
/-! ### rest_modulo -/
theorem red_trim {p : Int} (hp : 0 < p) {W : List Int} (h : ∀ k, 0 ≤ W.getD k 0 ∧ W.getD k 0 < p) : Red p (trim W) := ⟨fun k => by rw [trim_get]; exact (h k).1, fun k => by rw [trim_get]; exact (h k).2, trim_last _⟩
theorem three_inj {u v : List Int} {a b : List Int} {p q : Int} (h : [rowD u, rowD a, PyData.int p] = [rowD v, rowD b, .int q]) : u = v ∧ a = b ∧ p = q := by
  simp only [List.cons.injEq, and_true, PyData.int.injEq] at h
  exact ⟨rowD_inj h.1, rowD_inj h.2.1, h.2.2⟩

def pre_rest_modulo : List PyData → Prop := fun ds => ∃ (F D : List Int) (p : Int), ds = [rowD F, rowD D, .int p] ∧ Pr p ∧ p.natAbs < 2 ^ 9700 ∧ Red p F ∧ Red p D ∧ D ≠ [] ∧ F.length ≤ 200 ∧ D.length ≤ 200
def post_rest_modulo : List PyData → PyData → Prop := fun ds d => ∃ (F D : List Int) (p : Int) (R : List Int), ds = [rowD F, rowD D, .int p] ∧ d = rowD R ∧ Red p R ∧ R.length < D.length ∧ RelM p F D R
abbrev sp_rest_modulo (K : PySem.W.Frag) : Sp := SpP K pre_rest_modulo post_rest_modulo
theorem len_rest_modulo (K : PySem.W.Frag) (vs : List V) (H : Hp) (Q : VK) (E : XK) (h : sp_rest_modulo K vs H Q E) : vs.length = p_rest_modulo.length := len_P (n := 3) h fun ds hp => by
  obtain ⟨F, D, p, e, P, pb, RF, RD, Dn, lF, lD⟩ := hp
  rw [e]; rfl
def t_rest_modulo (K : PySem.W.Frag) : TS :=
  (tSeq (tAsg (tCB (rListQ K) (tCons (tVar 0) tNil)) (gName 3))
  (tSeq (tAsg (tOp (rIx K) (tVar 1) (tUn (rU fun i => .int (-i)) (tC (.int 1)))) (gName 4))
  (tSeq (tAsg (tCB (rLenQ K) (tCons (tVar 1) tNil)) (gName 5))
  (tSeq (tWhile (tTest (tOp (rI0 fun i j => .bl (decide (j ≤ i))) (tCB (rLenQ K) (tCons (tVar 3) tNil)) (tVar 5))) (tSeq (tAsg (tBM0 K "list" rPop (tVar 3)) (gName 6))
  (tSeq (tIfS (tTest (tOp rEq (tVar 6) (tC (.int 0)))) tCont tNext)
  (tSeq (tAsg (tLc (iList K (tVar 3)) (gName 9) tYes (tOp rModA (tOp (rMulA K) (tVar 9) (tVar 4)) (tVar 2)) [9]) (gName 3))
  (tSeq (tAsg (tOp (rAddA K) (tOp (rI0 fun i j => .int (i - j)) (tCB (rLenQ K) (tCons (tVar 3) tNil)) (tVar 5)) (tC (.int 1))) (gName 7))
  (tFor (iRng1 (tCons (tOp (rI0 fun i j => .int (i - j)) (tVar 5) (tC (.int 1))) tNil)) (gName 8) (tAsg (tOp rModA (tOp (rI0 fun i j => .int (i - j)) (tOp (rIx K) (tVar 3) (tOp (rAddA K) (tVar 7) (tVar 8))) (tOp (rMulA K) (tVar 6) (tOp (rIx K) (tVar 1) (tVar 8)))) (tVar 2)) (gSub (tVar 3) (tOp (rAddA K) (tVar 7) (tVar 8)) rSetL))))))))
  (tRet (tCall (sp_trimmed K) [] E0 (tCons (tVar 3) tNil)))))))
theorem pure_rest_modulo (K : PySem.W.Frag) (vs : List V) (H : Hp) (Q : VK) (E : XK) (h : sp_rest_modulo K vs H Q E) : t_rest_modulo K { nx := fun _ H' => Q .non H', rt := Q } (L2.start N_rest_modulo vs) H := body_P h fun B ds hW hp => by
  obtain ⟨F, D, p, e, P, pb, RF, RD, Dn, lF, lD⟩ := hp
  subst e
  unfold t_rest_modulo
  have p1 := P.one
  have dl := List.length_pos_iff.mpr Dn
  have sm : ∀ {z : Int}, 0 ≤ z → z < p → z.natAbs < 2 ^ 9700 := fun h1 h2 => by omega
  have lcb : (lc D).natAbs < 2 ^ 9700 := sm (RD.lo _) (RD.hi _)
  refine st_seq (st_own (en_listQ (ev_var rfl ⟨F.map .int, .inl rfl, fun l => ?_⟩)))
  refine st_seq (st_asg (ev_op (ev_var rfl (ev_un (ev_int (uok_neg (rok_ixsT (at_lc Dn) ?_)))))))
  refine st_seq (st_asg (ev_cb (ea_cons (ev_var rfl (ea_nil (co_lenT ?_))))))
  rw [List.length_map]
  refine st_seq (st_while (fun m L2 Γ2 => ∃ (W : List Int) (l : Addr) (s6 s7 s8 s9 : Sl), L2 = [l] ∧ Γ2 = [.d (rowD F), .d (rowD D), .d (.int p), .own l (W.map .int), .d (.int (lc D)), .d (.int (D.length : Int)), s6, s7, s8, s9] ∧ W.length = m ∧ W.length ≤ 200 ∧ (∀ k, 0 ≤ W.getD k 0 ∧ W.getD k 0 < p) ∧ RelM p F D W) F.length ⟨F, l, _, _, _, _, rfl, rfl, rfl, lF, fun k => ⟨RF.lo k, RF.hi k⟩, RelM.start P F D⟩ ?_)
  rintro m L2 Γ2 ⟨W, l, s6, s7, s8, s9, rfl, rfl, rfl, lW, hW, rel⟩
  refine et_test (ev_op (ev_lenOwn rfl (ev_var rfl (rok_b0 ⟨_, rfl, fun hb => ?_, fun hb => ?_⟩))))
  · rw [List.length_map] at hb
    have hlen : D.length ≤ W.length := by
      have := of_decide_eq_true hb
      omega
    have Wn : W ≠ [] := List.length_pos_iff.mp (by omega)
    obtain ⟨W', t, rfl⟩ : ∃ W' t, W = W' ++ [t] := ⟨W.dropLast, W.getLast Wn, (List.dropLast_concat_getLast Wn).symm⟩
    have lw : (W' ++ [t]).length = W'.length + 1 := by simp
    rw [lw] at hlen lW
    have gW : ∀ k, 0 ≤ W'.getD k 0 ∧ W'.getD k 0 < p := fun k => by
      have := hW k
      rw [snoc_get] at this
      by_cases q : k < W'.length
      · rwa [if_pos q] at this
      · rw [getD_out (u := W') (by omega)]
        omega
    have gt : 0 ≤ t ∧ t < p := by
      have := hW W'.length
      rwa [snoc_get, if_neg (Nat.lt_irrefl _), if_pos rfl] at this
    refine st_seq (st_popA (y := .int t) rfl (by decide) (by rw [List.map_append]; simp) ?_)
    have ed : ((W' ++ [t]).map PyData.int).dropLast = W'.map PyData.int := by rw [List.map_append]; simp
    rw [ed]
    refine st_seq (st_if (et_test (ev_op (ev_var rfl (ev_int (rok_eqI ⟨_, rfl, fun hb => ?_, fun hb => ?_⟩))))))
    · obtain rfl : t = 0 := of_decide_eq_true hb
      exact st_cont ⟨W'.length, by rw [lw]; omega, W', l, .d (.int 0), s7, s8, s9, rfl, rfl, rfl, by omega, gW, rel.drop⟩
    · have t0 : t ≠ 0 := of_decide_eq_false hb
      refine st_next (st_seq (st_freeze 3 rfl (by simp) (st_own (en_lcL (wipe1 9) (ev_var rfl ⟨W'.map .int, rfl, by rw [List.length_map]; omega, fun i acc => acc = ((W'.take i).map fun x => PyData.int (x * lc D % p)), ⟨rfl, fun i D2 d' acc hi hJ hin => ?_⟩, fun acc hJ l2 => ?_⟩)))))
      · obtain ⟨x, hx, rfl⟩ : ∃ x, W'[i]? = some x ∧ d' = .int x := map_get hi
        have xb : x.natAbs < 2 ^ 9700 := by
          have := gW i
          rw [List.getD_eq_getElem?_getD, hx] at this
          exact sm this.1 this.2
        refine et_yes ⟨fun _ => ?_, fun z => nomatch z⟩
        refine ev_op (ev_op (ev_var rfl (ev_var rfl (ro_mulW (mulW_of xb lcb (by decide)) (ev_var rfl (ro_mod (by omega) ?_))))))
        show acc ++ [_] = (W'.take (i + 1)).map fun x => PyData.int (x * lc D % p)
        rw [hJ, List.take_add_one, hx, List.map_append]
        rfl
      · rw [List.length_map, List.take_length] at hJ
        subst hJ
        refine st_seq (st_asg (ev_op (ev_op (ev_lenOwn rfl (ev_var rfl (rok_i0 (ev_int (ro_add ?_))))))))
        rw [List.length_map, show (W'.length : Int) - (D.length : Int) + 1 = ((W'.length + 1 - D.length : Nat) : Int) by omega]
        obtain ⟨st, hst⟩ : ∃ st, st = W'.length + 1 - D.length := ⟨_, rfl⟩
        rw [← hst]
        obtain ⟨V0, hV0⟩ : ∃ V0 : List Int, V0 = W'.map fun x => x * lc D % p := ⟨_, rfl⟩
        have e0 : (W'.map fun x => PyData.int (x * lc D % p)) = V0.map .int := by rw [hV0, List.map_map]; rfl
        rw [e0]
        have gV0 : ∀ k, V0.getD k 0 = W'.getD k 0 * lc D % p := fun k => by rw [hV0, map_getD (f := fun x => x * lc D % p) (by simp)]
        refine st_forR (ea_cons (ev_op (ev_var rfl (ev_int (rok_i0 (ea_nil ⟨_, rfl, by omega, by omega, fun j L3 Γ3 => ∃ (V : List Int) (s8 s9 : Sl), L3 = [l2] ∧ Γ3 = [.d (rowD F), .d (rowD D), .d (.int p), .own l2 (V.map .int), .d (.int (lc D)), .d (.int (D.length : Int)), .d (.int t), .d (.int (st : Int)), s8, s9] ∧ V.length = W'.length ∧ ∀ k, V.getD k 0 = if st ≤ k ∧ k < st + j then (W'.getD k 0 * lc D % p - t * D.getD (k - st) 0) % p else W'.getD k 0 * lc D % p, ⟨V0, _, _, rfl, rfl, by rw [hV0, List.length_map], fun k => by rw [if_neg (by omega), gV0]⟩, ?_, ?_⟩))))))
        · rintro j L3 Γ3 hj ⟨V, s8, s9, rfl, rfl, lV, gV⟩
          have hj : j + 1 < D.length := by omega
          have jb : st + j < V.length := by omega
          have vg : V.getD (st + j) 0 = W'.getD (st + j) 0 * lc D % p := by rw [gV, if_neg (by omega)]
          have a1 : atI (V.map PyData.int) ((st : Int) + (j : Int)) = some (.int (V.getD (st + j) 0)) := by
            rw [show (st : Int) + (j : Int) = ((st + j : Nat) : Int) by omega]
            exact ints_at jb 0
          have a2 : atI (D.map PyData.int) (j : Int) = some (.int (D.getD j 0)) := ints_at (by omega) 0
          refine st_setOwn rfl (ev_op (ev_op (ev_ixOwn rfl (ev_op (ev_var rfl (ev_var rfl (ro_add ⟨_, _, rfl, a1, ev_op (ev_var rfl (ev_op (ev_var rfl (ev_var rfl (rok_ixsT a2 (ro_mulW (mulW_of (sm gt.1 gt.2) (sm (RD.lo j) (RD.hi j)) (by decide)) (rok_i0 (ev_var rfl (ro_mod (by omega) ?_)))))))))⟩)))))))
          refine ev_op (ev_var rfl (ev_var rfl (ro_add ⟨st + j, by rw [show ((st : Int) + (j : Int)) = ((st + j : Nat) : Int) from (Int.natCast_add st j).symm], by rw [List.length_map]; exact jb, V.set (st + j) ((V.getD (st + j) 0 - t * D.getD j 0) % p), .d (.int (j : Int)), s9, rfl, ?_, by rw [List.length_set]; exact lV, fun k => ?_⟩)))
          · rw [List.map_set]
            rfl
          · rw [set_getD _ jb]
            by_cases q : k = st + j
            · rw [if_pos q, if_pos (by omega), vg, q, show st + j - st = j by omega]
            · rw [if_neg q, gV]
              by_cases q2 : st ≤ k ∧ k < st + j
              · rw [if_pos q2, if_pos (by omega)]
              · rw [if_neg q2, if_neg (by omega)]
        · rintro L3 Γ3 ⟨V, s8, s9, rfl, rfl, lV, gV⟩
          have ej : ((D.length : Int) - 1).toNat = D.length - 1 := by omega
          rw [ej] at gV
          have gV' : ∀ k, V.getD k 0 = if W'.length + 1 - D.length ≤ k ∧ k < W'.length then (W'.getD k 0 * lc D % p - t * D.getD (k - (W'.length + 1 - D.length)) 0) % p else W'.getD k 0 * lc D % p := fun k => by
            rw [gV k, ← hst, show st + (D.length - 1) = W'.length by omega]
          refine ⟨V.length, by rw [lw]; omega, V, l2, _, _, s8, s9, rfl, rfl, rfl, by omega, fun k => ?_, rest_step P RD Dn hlen rel gV'⟩
          rw [gV]
          have em : ∀ z : Int, 0 ≤ z % p ∧ z % p < p := fun z => ⟨Int.emod_nonneg _ (by omega), Int.emod_lt_of_pos _ (by omega)⟩
          split
          · exact em _
          · exact em _
  · rw [List.length_map] at hb
    have hlen : W.length < D.length := by
      have := of_decide_eq_false hb
      omega
    refine st_freeze 3 rfl (by simp) (st_ret (ev_callP (ea_cons (ev_var rfl (ea_nil ⟨⟨W, rfl, by omega⟩, fun d ⟨W2, e, ed⟩ => ?_⟩)))))
    obtain rfl : W = W2 := map_int_inj (PyData.list.inj (List.cons.inj e).1)
    exact ⟨F, D, p, trim W, rfl, ed, red_trim (by omega) hW, Nat.lt_of_le_of_lt (trim_len W) hlen, rel.trim⟩
theorem ok_rest_modulo (T : Tx K mg) : FnOk P w K mg base CX0 2 T.a_rest_modulo T.d_rest_modulo p_rest_modulo (sp_rest_modulo K) := by
  refine T.F_rest_modulo.ok sc_rest_modulo (fun vs H Q E h => len_rest_modulo K vs H Q E h) (fun cdv A outer s H vs Q E hr h => ?_)
  exact ⟨t_rest_modulo K, (pss_cons (ps_set (i := 3) sc_rest_modulo.nd rfl (Or.inl rfl) (pe_callTy call_list_of (by rfl) T.n_list (by decide +kernel) (pa_cons (pv 0) pa_nil)))
  (pss_cons (ps_set (i := 4) sc_rest_modulo.nd rfl (Or.inr rfl) (pe_ix ix_seq (pv 1) (pe_un un_neg pe_int) (fun _ _ => rfl)))
  (pss_cons (ps_set (i := 5) sc_rest_modulo.nd rfl (Or.inl rfl) (pe_callB call_len_seq (by rfl) T.n_len (by decide +kernel) (pa_cons (pv 1) pa_nil)))
  (pss_cons (ps_while PassesOwn.never (pt_cmpR op_ge (pe_callB call_len_seq (by rfl) T.n_len (by decide +kernel) (pa_cons (pv 3) pa_nil)) (pv 5) (nomark _)) (pss_cons (ps_set (i := 6) sc_rest_modulo.nd rfl (Or.inl rfl) (pe_bm0 PySem.F.plainAttrs_list PySem.F.slot_list_pop PySem.F.type_list_pop mt_pop (pv 3)))
  (pss_cons (ps_if (pt_cmpR op_eq (pv 6) pe_int (nomark _)) (pss_one ps_continue) pss_nil)
  (pss_cons (ps_setLc (i := 3) (own := [("number", 9)]) (by rfl) sc_rest_modulo.nd rfl rfl (sw_true rfl rfl rfl (by decide +kernel)) (pi_list (pv 3)) (blkOk_by (own := [("number", 9)]) (N := N_rest_modulo) (sc := defScope s_rest_modulo) (by decide +kernel)) (fun _ _ _ _ _ => pg_name (i := 9) sc_rest_modulo.nd rfl (Or.inl rfl)) (fun _ _ _ _ _ => pts_nil) (fun _ _ _ _ _ => (pe_op op_modA (pe_op op_mulA (pv 9) (pv 4)) (pv 2))))
  (pss_cons (ps_set (i := 7) sc_rest_modulo.nd rfl (Or.inl rfl) (pe_op op_addA (pe_op op_sub (pe_callB call_len_seq (by rfl) T.n_len (by decide +kernel) (pa_cons (pv 3) pa_nil)) (pv 5)) pe_int))
  (pss_one (ps_for PassesOwn.never rfl (pi_range1 (by rfl) T.n_range (pa_cons (pe_op op_sub (pv 5) pe_int) pa_nil)) (pg_name (i := 8) sc_rest_modulo.nd rfl (Or.inl rfl)) (pss_one (ps_asg (pe_op op_modA (pe_op op_sub (pe_ix ix_seq (pv 3) (pe_op op_addA (pv 7) (pv 8)) (fun _ _ => rfl)) (pe_op op_mulA (pv 6) (pe_ix ix_seq (pv 1) (pv 8) (fun _ _ => rfl)))) (pv 2)) (pg_sub (pv 3) (pe_op op_addA (pv 7) (pv 8)) set_list))))))))))
  (pss_one (ps_ret (pe_call (ok_trimmed T) (hr.mono (by decide)) rfl T.g_trimmed T.F_trimmed.kp (b_trimmed T) .nil pass0 (pa_cons (pv 3) pa_nil)))))))), pure_rest_modulo K vs H Q E h⟩
/-! ### divisor_modulo -/

def pre_divisor_modulo : List PyData → Prop := fun ds => ∃ (f g : List Int) (p : Int), ds = [rowD f, rowD g, .int p] ∧ Pr p ∧ p.natAbs < 2 ^ 9700 ∧ f.length ≤ 200 ∧ g.length ≤ 200 ∧ rdm p f ≠ []
def post_divisor_modulo : List PyData → PyData → Prop := fun ds d => ∃ (f g : List Int) (p : Int) (W : List Int), ds = [rowD f, rowD g, .int p] ∧ d = rowD W ∧ Red p W ∧ W ≠ [] ∧ W.length ≤ 200 ∧ (∀ D, Dv p D f → Dv p D g → Dv p D W) ∧ Dv p W f ∧ Dv p W g
abbrev sp_divisor_modulo (K : PySem.W.Frag) : Sp := SpP K pre_divisor_modulo post_divisor_modulo
theorem len_divisor_modulo (K : PySem.W.Frag) (vs : List V) (H : Hp) (Q : VK) (E : XK) (h : sp_divisor_modulo K vs H Q E) : vs.length = p_divisor_modulo.length := len_P (n := 3) h fun ds hp => by
  obtain ⟨f, g, p, e, P, pb, lf, lg_, fn⟩ := hp
  rw [e]; rfl
def t_divisor_modulo (K : PySem.W.Frag) : TS :=
  (tSeq (tAsg (tCall (sp_trimmed K) [] E0 (tCons (tLc (iTup K (tVar 0)) (gName 5) tYes (tOp rModA (tVar 5) (tVar 2)) [5]) tNil)) (gName 3))
  (tSeq (tAsg (tCall (sp_trimmed K) [] E0 (tCons (tLc (iTup K (tVar 1)) (gName 5) tYes (tOp rModA (tVar 5) (tVar 2)) [5]) tNil)) (gName 4))
  (tSeq (tWhile (tTru K (tVar 4)) (tSeq (tIfS (tTest (tOp (rI0 fun i j => .bl (decide (i < j))) (tCB (rLenQ K) (tCons (tVar 3) tNil)) (tCB (rLenQ K) (tCons (tVar 4) tNil)))) (tPar 3 4 (tCons (tVar 4) (tCons (tVar 3) tNil))) tNext)
  (tPar 3 4 (tCons (tVar 4) (tCons (tCall (sp_rest_modulo K) [] E0 (tCons (tVar 3) (tCons (tVar 4) (tCons (tVar 2) tNil)))) tNil)))))
  (tRet (tVar 3)))))
theorem pure_divisor_modulo (K : PySem.W.Frag) (vs : List V) (H : Hp) (Q : VK) (E : XK) (h : sp_divisor_modulo K vs H Q E) : t_divisor_modulo K { nx := fun _ H' => Q .non H', rt := Q } (L2.start N_divisor_modulo vs) H := body_P h fun B ds hW hp => by
  obtain ⟨f, g, p, e, P, pb, lf, lg_, fn⟩ := hp
  subst e
  unfold t_divisor_modulo
  have p1 := P.one
  have red : ∀ (u : List Int) (acc : List PyData), acc = ((u.take u.length).map fun x => PyData.int (x % p)) → acc = (u.map fun x => x % p).map .int := fun u acc h => by
    rw [h, List.take_length, List.map_map]
    rfl
  refine st_seq (st_asg (ev_callP (ea_cons (ev_new (en_lcT (wipe1 5) (ev_var rfl ⟨f.map .int, rfl, by rw [List.length_map]; omega, fun i acc => acc = ((f.take i).map fun x => PyData.int (x % p)), ⟨rfl, fun i D d' acc hi hJ hin => ?_⟩, fun acc hJ => ?_⟩))))))
  · obtain ⟨x, hx, rfl⟩ : ∃ x, f[i]? = some x ∧ d' = .int x := map_get hi
    refine et_yes ⟨fun _ => ev_op (ev_var rfl (ev_var rfl (ro_mod (by omega) ?_))), fun z => nomatch z⟩
    show acc ++ [_] = (f.take (i + 1)).map fun x => PyData.int (x % p)
    rw [hJ, List.take_add_one, hx, List.map_append]
    rfl
  rw [List.length_map] at hJ
  rw [red f acc hJ]
  refine ea_nil ⟨⟨_, rfl, by rw [List.length_map]; omega⟩, fun d ⟨W2, e, ed⟩ => ?_⟩
  obtain rfl : f.map (fun x => x % p) = W2 := map_int_inj (PyData.list.inj (List.cons.inj e).1)
  subst ed
  refine st_seq (st_asg (ev_callP (ea_cons (ev_new (en_lcT (wipe1 5) (ev_var rfl ⟨g.map .int, rfl, by rw [List.length_map]; omega, fun i acc => acc = ((g.take i).map fun x => PyData.int (x % p)), ⟨rfl, fun i D d' acc hi hJ hin => ?_⟩, fun acc hJ => ?_⟩))))))
  · obtain ⟨x, hx, rfl⟩ : ∃ x, g[i]? = some x ∧ d' = .int x := map_get hi
    refine et_yes ⟨fun _ => ev_op (ev_var rfl (ev_var rfl (ro_mod (by omega) ?_))), fun z => nomatch z⟩
    show acc ++ [_] = (g.take (i + 1)).map fun x => PyData.int (x % p)
    rw [hJ, List.take_add_one, hx, List.map_append]
    rfl
  rw [List.length_map] at hJ
  rw [red g acc hJ]
  refine ea_nil ⟨⟨_, rfl, by rw [List.length_map]; omega⟩, fun d ⟨W2, e, ed⟩ => ?_⟩
  obtain rfl : g.map (fun x => x % p) = W2 := map_int_inj (PyData.list.inj (List.cons.inj e).1)
  subst ed
  have lt : ∀ u : List Int, u.length ≤ 200 → (rdm p u).length ≤ 200 := fun u h => by
    have := trim_len (u.map fun x => x % p)
    rw [List.length_map] at this
    unfold rdm
    omega
  refine st_seq (st_while (fun m L2 Γ2 => ∃ a b : List Int, ∃ s5 : Sl, L2 = [] ∧ Γ2 = [.d (rowD f), .d (rowD g), .d (.int p), .d (rowD a), .d (rowD b), s5] ∧ a.length + b.length = m ∧ a.length ≤ 200 ∧ b.length ≤ 200 ∧ Red p a ∧ Red p b ∧ a ≠ [] ∧ (∀ D, Dv p D f → Dv p D g → Dv p D a ∧ Dv p D b) ∧ ∀ D, Dv p D a → Dv p D b → Dv p D f ∧ Dv p D g) ((rdm p f).length + (rdm p g).length) ⟨rdm p f, rdm p g, _, rfl, rfl, rfl, lt f lf, lt g lg_, rdm_red (by omega) f, rdm_red (by omega) g, fn, fun D h1 h2 => ⟨rdm_dv.mp h1, rdm_dv.mp h2⟩, fun D h1 h2 => ⟨rdm_dv.mpr h1, rdm_dv.mpr h2⟩⟩ ?_)
  rintro m L2 Γ2 ⟨a, b, s5, rfl, rfl, rfl, la, lb, ra, rb, ne, hA, hC⟩
  refine et_tru (ev_var rfl ⟨trivial, fun hb => ?_, fun hb => ?_⟩)
  · have bn : b ≠ [] := fun z => by
      rw [z] at hb
      cases hb
    refine st_seq (st_join (fun L2 Γ2 => ∃ a' b' : List Int, L2 = [] ∧ Γ2 = [.d (rowD f), .d (rowD g), .d (.int p), .d (rowD a'), .d (rowD b'), s5] ∧ a'.length + b'.length = a.length + b.length ∧ b'.length ≤ a'.length ∧ a'.length ≤ 200 ∧ b'.length ≤ 200 ∧ Red p a' ∧ Red p b' ∧ b' ≠ [] ∧ (∀ D, Dv p D f → Dv p D g → Dv p D a' ∧ Dv p D b') ∧ ∀ D, Dv p D a' → Dv p D b' → Dv p D f ∧ Dv p D g) (st_if (et_test (ev_op (ev_cb (ea_cons (ev_var rfl (ea_nil (co_lenT (ev_cb (ea_cons (ev_var rfl (ea_nil (co_lenT (rok_b0 ⟨_, rfl, fun hb2 => ?_, fun hb2 => ?_⟩)))))))))))))) ?_)
    · rw [List.length_map, List.length_map] at hb2
      have := of_decide_eq_true hb2
      refine st_par (ea_cons (ev_var rfl (ea_cons (ev_var rfl (ea_nil ⟨_, _, rfl, ?_⟩)))))
      exact ⟨b, a, rfl, rfl, by omega, by omega, lb, la, rb, ra, ne, fun D h1 h2 => ⟨(hA D h1 h2).2, (hA D h1 h2).1⟩, fun D h1 h2 => hC D h2 h1⟩
    · rw [List.length_map, List.length_map] at hb2
      have := of_decide_eq_false hb2
      exact st_next ⟨a, b, rfl, rfl, rfl, by omega, la, lb, ra, rb, bn, hA, hC⟩
    · rintro L2 Γ2 ⟨a', b', rfl, rfl, hl, hle, la', lb', ra', rb', b0, hA', hC'⟩
      refine st_par (ea_cons (ev_var rfl (ea_cons (ev_callP (ea_cons (ev_var rfl (ea_cons (ev_var rfl (ea_cons (ev_var rfl (ea_nil ⟨⟨a', b', p, rfl, P, pb, ra', rb', b0, la', lb'⟩, fun d ⟨F, D, q, R, e, ed, RR, Rl, rel⟩ => ea_nil ⟨_, _, rfl, ?_⟩⟩)))))))))))
      obtain ⟨rfl, rfl, rfl⟩ := three_inj e
      subst ed
      exact ⟨b'.length + R.length, by omega, b', R, s5, rfl, rfl, rfl, lb', by omega, rb', RR, b0, fun D h1 h2 => ⟨(hA' D h1 h2).2, rel.down (hA' D h1 h2).1 (hA' D h1 h2).2⟩, fun D h1 h2 => hC' D (rel.up P h1 h2) h1⟩
  · have b0 : b = [] := by
      cases b with
      | nil => rfl
      | cons x r => cases hb
    obtain ⟨q1, q2⟩ := hC a (Dv.self p a) (by rw [b0]; exact Dv.nil p a)
    exact st_ret (ev_var rfl ⟨f, g, p, a, rfl, rfl, ra, ne, la, fun D h1 h2 => (hA D h1 h2).1, q1, q2⟩)
theorem ok_divisor_modulo (T : Tx K mg) : FnOk P w K mg base CX0 3 T.a_divisor_modulo T.d_divisor_modulo p_divisor_modulo (sp_divisor_modulo K) := by
  refine T.F_divisor_modulo.ok sc_divisor_modulo (fun vs H Q E h => len_divisor_modulo K vs H Q E h) (fun cdv A outer s H vs Q E hr h => ?_)
  exact ⟨t_divisor_modulo K, (pss_cons (ps_set (i := 3) sc_divisor_modulo.nd rfl (Or.inl rfl) (pe_call (ok_trimmed T) (hr.mono (by decide)) rfl T.g_trimmed T.F_trimmed.kp (b_trimmed T) .nil pass0 (pa_cons (pe_lc (own := [("number", 5)]) (by rfl) sc_divisor_modulo.nd (pi_tup (pv 0)) (blkOk_by (own := [("number", 5)]) (N := N_divisor_modulo) (sc := defScope s_divisor_modulo) (by decide +kernel)) (fun _ _ _ _ _ => pg_name (i := 5) sc_divisor_modulo.nd rfl (Or.inl rfl)) (fun _ _ _ _ _ => pts_nil) (fun _ _ _ _ _ => (pe_op op_modA (pv 5) (pv 2)))) pa_nil)))
  (pss_cons (ps_set (i := 4) sc_divisor_modulo.nd rfl (Or.inl rfl) (pe_call (ok_trimmed T) (hr.mono (by decide)) rfl T.g_trimmed T.F_trimmed.kp (b_trimmed T) .nil pass0 (pa_cons (pe_lc (own := [("number", 5)]) (by rfl) sc_divisor_modulo.nd (pi_tup (pv 1)) (blkOk_by (own := [("number", 5)]) (N := N_divisor_modulo) (sc := defScope s_divisor_modulo) (by decide +kernel)) (fun _ _ _ _ _ => pg_name (i := 5) sc_divisor_modulo.nd rfl (Or.inl rfl)) (fun _ _ _ _ _ => pts_nil) (fun _ _ _ _ _ => (pe_op op_modA (pv 5) (pv 2)))) pa_nil)))
  (pss_cons (ps_while PassesOwn.never (pt_truth (pv 4) (by intro _; rfl)) (pss_cons (ps_if (pt_cmpR op_lt (pe_callB call_len_seq (by rfl) T.n_len (by decide +kernel) (pa_cons (pv 3) pa_nil)) (pe_callB call_len_seq (by rfl) T.n_len (by decide +kernel) (pa_cons (pv 4) pa_nil)) (nomark _)) (pss_one (ps_par (by rfl) sc_divisor_modulo.nd rfl rfl (by decide) rfl rfl (pa_cons (pv 4) (pa_cons (pv 3) pa_nil)) (by rfl))) pss_nil)
  (pss_one (ps_par (by rfl) sc_divisor_modulo.nd rfl rfl (by decide) rfl rfl (pa_cons (pv 4) (pa_cons (pe_call (ok_rest_modulo T) (hr.mono (by decide)) rfl T.g_rest_modulo T.F_rest_modulo.kp (b_rest_modulo T) .nil pass0 (pa_cons (pv 3) (pa_cons (pv 4) (pa_cons (pv 2) pa_nil)))) pa_nil)) (by rfl)))))
  (pss_one (ps_ret (pv 3)))))), pure_divisor_modulo K vs H Q E h⟩
/-! ### guessed_divisor -/
theorem n1_le : ∀ {u : List Int} {M : Nat}, (∀ x ∈ u, x.natAbs ≤ M) → n1 u ≤ u.length * M
  | [], _, _ => Nat.zero_le _
  | a :: u, M, h => by
    have h1 := n1_le (u := u) (M := M) fun x hx => h x (List.mem_cons_of_mem _ hx)
    have h2 := h a (List.mem_cons_self ..)
    rw [n1_cons]
    show _ ≤ (u.length + 1) * M
    rw [Nat.add_mul, Nat.one_mul]
    omega
theorem gnd {f g G : List Int} {p : Int} {B h : Nat} (X : GPre f g p G B h) (lk : 2 * 2 ^ (B + h) < p.natAbs) : ¬ p ∣ lc f ∧ ¬ p ∣ lc g := by
  have hB : 2 ^ h ≤ 2 ^ (B + h) := Nat.pow_le_pow_right (by decide) (by omega)
  have go : ∀ u : List Int, u.getLast? ≠ some 0 → u ≠ [] → n1 u < 2 ^ h → ¬ p ∣ lc u := fun u t n b d => by
    have := Nat.le_of_dvd (by have := lc_ne t n; omega) (Int.natAbs_dvd_natAbs.mpr d)
    have := lc_n1 u
    omega
  exact ⟨go f X.tf X.nf X.hf, go g X.tg X.ng X.hg⟩

def pre_guessed_divisor : List PyData → Prop := fun ds => ∃ (f g : List Int) (p : Int) (G : List Int) (B h : Nat), ds = [rowD f, rowD g, .int p] ∧ GPre f g p G B h
def post_guessed_divisor : List PyData → PyData → Prop := fun ds d => ∃ (f g : List Int) (p : Int), ds = [rowD f, rowD g, .int p] ∧ (d = .none ∨ ∃ (G : List Int) (B : Nat), IsG f g G B ∧ d = rowD G) ∧ ∀ (G : List Int) (B h : Nat), GPre f g p G B h → 2 * 2 ^ (B + h) < p.natAbs → d ≠ .none
abbrev sp_guessed_divisor (K : PySem.W.Frag) : Sp := SpP K pre_guessed_divisor post_guessed_divisor
theorem len_guessed_divisor (K : PySem.W.Frag) (vs : List V) (H : Hp) (Q : VK) (E : XK) (h : sp_guessed_divisor K vs H Q E) : vs.length = p_guessed_divisor.length := len_P (n := 3) h fun ds hp => by
  obtain ⟨f, g, p, G, B0, h0, e, X⟩ := hp
  rw [e]; rfl
def t_guessed_divisor (K : PySem.W.Frag) : TS :=
  (tSeq (tIfS (tOr (tTest (tOp rEq (tOp rModA (tOp (rIx K) (tVar 0) (tUn (rU fun i => .int (-i)) (tC (.int 1)))) (tVar 2)) (tC (.int 0)))) (tTest (tOp rEq (tOp rModA (tOp (rIx K) (tVar 1) (tUn (rU fun i => .int (-i)) (tC (.int 1)))) (tVar 2)) (tC (.int 0))))) (tRet (tC .non)) tNext)
  (tSeq (tAsg (tCall (sp_divisor_modulo K) [] E0 (tCons (tVar 0) (tCons (tVar 1) (tCons (tVar 2) tNil)))) (gName 3))
  (tSeq (tIfS (tTest (tOp rEq (tCB (rLenQ K) (tCons (tVar 3) tNil)) (tC (.int 1)))) (tRet (tTup (tCons (tC (.int 1)) tNil))) tNext)
  (tSeq (tAsg (tCall (sp_content K) [] E0 (tCons (tTup (tCons (tOp (rIx K) (tVar 0) (tUn (rU fun i => .int (-i)) (tC (.int 1)))) (tCons (tOp (rIx K) (tVar 1) (tUn (rU fun i => .int (-i)) (tC (.int 1)))) tNil))) tNil)) (gName 4))
  (tSeq (tAsg (tOp rModA (tOp (rMulA K) (tVar 4) (tCall (sp_inverse_modulo K) [] E0 (tCons (tOp (rIx K) (tVar 3) (tUn (rU fun i => .int (-i)) (tC (.int 1)))) (tCons (tVar 2) tNil)))) (tVar 2)) (gName 5))
  (tSeq (tAsg (tLst tNil) (gName 6))
  (tSeq (tFor (iTup K (tVar 3)) (gName 7) (tSeq (tAsg (tOp rModA (tOp (rMulA K) (tVar 7) (tVar 5)) (tVar 2)) (gName 7))
  (tDrop (tBM K "list" rAppend (tVar 6) (tCons (tIf (tTest (tOp (rI0 fun i j => .bl (decide (j < i))) (tOp (rMulA K) (tC (.int 2)) (tVar 7)) (tVar 2))) (tOp (rI0 fun i j => .int (i - j)) (tVar 7) (tVar 2)) (tVar 7)) tNil)))))
  (tSeq (tAsg (tCall (sp_reduced K) [] E0 (tCons (tCB (rTupleQ K) (tCons (tVar 6) tNil)) tNil)) (gName 8))
  (tSeq (tIfS (tOr (tB (tIsN (tCall (sp_whole_quotient K) [] E0 (tCons (tVar 0) (tCons (tVar 8) tNil))))) (tB (tIsN (tCall (sp_whole_quotient K) [] E0 (tCons (tVar 1) (tCons (tVar 8) tNil)))))) (tRet (tC .non)) tNext)
  (tRet (tVar 8)))))))))))
theorem pure_guessed_divisor (K : PySem.W.Frag) (vs : List V) (H : Hp) (Q : VK) (E : XK) (h : sp_guessed_divisor K vs H Q E) : t_guessed_divisor K { nx := fun _ H' => Q .non H', rt := Q } (L2.start N_guessed_divisor vs) H := body_P h fun B ds hW hp => by
  obtain ⟨f, g, p, G, B0, h0, e, X⟩ := hp
  subst e
  unfold t_guessed_divisor
  have P := X.P
  have p1 := P.one
  have nf := X.nf
  have ng := X.ng
  have lf := X.lf
  have lg' := X.lg
  have none1 : p ∣ lc f ∨ p ∣ lc g → post_guessed_divisor [rowD f, rowD g, .int p] .none := fun hd => by
    refine ⟨f, g, p, rfl, .inl rfl, fun G B h Y lk _ => ?_⟩
    obtain ⟨a, b⟩ := gnd Y lk
    rcases hd with z | z
    · exact a z
    · exact b z
  refine st_seq (st_if (et_or (et_test (ev_op (ev_op (ev_op (ev_var rfl (ev_un (ev_int (uok_neg (rok_ixsT (at_lc nf) (ev_var rfl (ro_mod (by omega) (ev_int (rok_eqI ⟨_, rfl, fun hb => ?_, fun hb => ⟨fun _ => st_ret (ev_non (none1 (.inl (Int.dvd_of_emod_eq_zero (of_decide_eq_true hb))))), fun z => nomatch z⟩⟩)))))))))))))))
  refine et_test (ev_op (ev_op (ev_op (ev_var rfl (ev_un (ev_int (uok_neg (rok_ixsT (at_lc ng) (ev_var rfl (ro_mod (by omega) (ev_int (rok_eqI ⟨_, rfl, fun hb2 => st_ret (ev_non (none1 (.inr (Int.dvd_of_emod_eq_zero (of_decide_eq_true hb2))))), fun hb2 => st_next ?_⟩))))))))))))
  have hl : ¬ p ∣ lc f := fun d => of_decide_eq_false hb (Int.emod_eq_zero_of_dvd d)
  have rn : rdm p f ≠ [] := fun z => by
    have := rdm_get p f (f.length - 1)
    rw [z, getD_out (u := []) (Nat.zero_le _)] at this
    exact hl (Int.dvd_of_emod_eq_zero this.symm)
  refine st_seq (st_asg (ev_callP (ea_cons (ev_var rfl (ea_cons (ev_var rfl (ea_cons (ev_var rfl (ea_nil ⟨⟨f, g, p, rfl, P, X.pb, by omega, by omega, rn⟩, fun d ⟨f', g', p', W, e, ed, R, Wn, _, A, b1, b2⟩ => ?_⟩)))))))))
  obtain ⟨rfl, rfl, rfl⟩ := three_inj e
  subst ed
  have F : Fnd f g p W := ⟨R, Wn, A, b1, b2, hl⟩
  obtain ⟨w0, wl⟩ := top_ne R.t Wn
  have lW : W.length ≤ 40 := by
    obtain ⟨k, k1, k2, _⟩ := b1.len P (fun d => w0 (R.small _ d)) wl ⟨f.length - 1, hl⟩
    have : k < f.length := by
      rcases Nat.lt_or_ge k f.length with q | q
      · exact q
      · exact (k2 (by rw [getD_out (u := f) q]; exact ⟨0, by simp⟩)).elim
    omega
  refine st_seq (st_if (et_test (ev_op (ev_cb (ea_cons (ev_var rfl (ea_nil (co_lenT (ev_int (rok_eqI ⟨_, rfl, fun hb3 => ?_, fun hb3 => st_next ?_⟩))))))))))
  · rw [List.length_map] at hb3
    have w1 : W.length = 1 := by
      have := of_decide_eq_true hb3
      omega
    exact st_ret (ev_tup (ea_cons (ev_int (ea_nil ⟨by simp, f, g, p, rfl, .inr ⟨G, B0, X.I, by rw [X.one F w1]; rfl⟩, fun _ _ _ _ _ z => nomatch z⟩))))
  · refine st_seq (st_asg (ev_callP (ea_cons (ev_tup (ea_cons (ev_op (ev_var rfl (ev_un (ev_int (uok_neg (rok_ixsT (at_lc nf) ?_)))))))))))
    refine ea_cons (ev_op (ev_var rfl (ev_un (ev_int (uok_neg (rok_ixsT (at_lc ng) (ea_nil ⟨by simp, ea_nil ⟨⟨[lc f, lc g], rfl, by simp⟩, fun d ⟨w, e, ed⟩ => ?_⟩⟩)))))))
    obtain rfl := one_inj (u := [lc f, lc g]) e
    rw [gcd_two] at ed
    subst ed
    obtain ⟨l, hl2⟩ : ∃ l, l = ((Nat.gcd (lc f).natAbs (lc g).natAbs : Nat) : Int) := ⟨_, rfl⟩
    rw [← hl2]
    have f0 := lc_ne X.tf nf
    have ldv : l ∣ lc f := by
      rw [hl2]
      refine Int.natAbs_dvd_natAbs.mp ?_
      rw [Int.natAbs_natCast]
      exact Nat.gcd_dvd_left _ _
    have lbd : l.natAbs < 2 ^ 4000 := by
      have h1 := Nat.le_of_dvd (by omega) (Int.natAbs_dvd_natAbs.mpr ldv)
      have h2 := Nat.lt_of_le_of_lt (lc_n1 f) (pow_up X.hf X.hh)
      omega
    have hW : ¬ p ∣ lc W := fun d => w0 (R.small _ d)
    refine st_seq (st_asg (ev_op (ev_op (ev_var rfl (ev_callP (ea_cons (ev_op (ev_var rfl (ev_un (ev_int (uok_neg (rok_ixsT (at_lc Wn) ?_))))))))))))
    refine ea_cons (ev_var rfl (ea_nil ⟨⟨lc W, p, rfl, P, hW, X.pb⟩, fun d ⟨n', p', i, e, ed, hi, i0, i1⟩ => ?_⟩))
    simp only [List.cons.injEq, and_true, PyData.int.injEq] at e
    obtain ⟨rfl, rfl⟩ := e
    subst ed
    have ib : i.natAbs < 2 ^ 9700 := by have := X.pb; omega
    refine ro_mulW (mulW_of lbd ib (by decide)) (ev_var rfl (ro_mod (by omega) ?_))
    obtain ⟨T, hT⟩ : ∃ T, T = l * i % p := ⟨_, rfl⟩
    rw [← hT]
    have Tb : T.natAbs < 2 ^ 9700 := by
      have a := Int.emod_nonneg (l * i) (show p ≠ 0 by omega)
      have b := Int.emod_lt_of_pos (l * i) (show 0 < p by omega)
      have := X.pb
      omega
    refine st_seq (st_own (en_lst (ea_nil ⟨by simp, fun lo => ?_⟩)))
    refine st_seq (st_forT (ev_var rfl ⟨W.map .int, rfl, fun j L2 Γ2 => ∃ s7 : Sl, L2 = [lo] ∧ Γ2 = [.d (rowD f), .d (rowD g), .d (.int p), .d (rowD W), .d (.int l), .d (.int T), .own lo (((W.take j).map (cen p T)).map .int), s7, .un], ⟨_, rfl, rfl⟩, ?_, ?_⟩))
    · rintro j d' L2 Γ2 gg hj ⟨s7, rfl, rfl⟩
      obtain ⟨y, hy, rfl⟩ : ∃ y, W[j]? = some y ∧ d' = .int y := map_get hj
      have jl := (List.getElem?_eq_some_iff.mp hy).1
      have yb : y.natAbs < 2 ^ 9700 := by
        have a := R.lo j
        have b := R.hi j
        rw [List.getD_eq_getElem?_getD, hy] at a b
        have a : 0 ≤ y := a
        have b : y < p := b
        have := X.pb
        omega
      refine st_seq (st_asg (ev_op (ev_op (ev_var rfl (ev_var rfl (ro_mulW (mulW_of yb Tb (by decide)) (ev_var rfl (ro_mod (by omega) ?_))))))))
      have em : ((W.take j).map (cen p T)).map PyData.int ++ [.int (cen p T y)] = ((W.take (j + 1)).map (cen p T)).map .int := by
        rw [List.take_add_one, hy, List.map_append, List.map_append]
        rfl
      refine st_append rfl (by rw [List.length_map, List.length_map, List.length_take]; omega) (ev_if (et_test (ev_op (ev_op (ev_int (ev_var rfl (ro_mul (.inl ⟨by decide, by decide⟩) (ev_var rfl (rok_b0 ⟨_, rfl, fun hb => ?_, fun hb => ?_⟩)))))))))
      · have q := of_decide_eq_true hb
        refine ev_op (ev_var rfl (ev_var rfl (rok_i0 ?_)))
        have ec : y * T % p - p = cen p T y := by unfold cen; rw [if_pos q]
        rw [ec, em]
        exact ⟨_, rfl, rfl⟩
      · have q := of_decide_eq_false hb
        refine ev_var rfl ?_
        have ec : PyData.int (y * T % p) = .int (cen p T y) := by unfold cen; rw [if_neg q]
        rw [ec, em]
        exact ⟨_, rfl, rfl⟩
    · rintro L2 Γ2 ⟨s7, rfl, rfl⟩
      rw [List.length_map, List.take_length]
      obtain ⟨c0, tc, nc⟩ := cen_row P F ldv hi hT
      have lC : (W.map (cen p T)).length = W.length := List.length_map ..
      have bC : ∀ x ∈ W.map (cen p T), x.natAbs ≤ p.natAbs := fun x hx => by
        obtain ⟨y, _, rfl⟩ := List.mem_map.mp hx
        exact Nat.le_of_lt (cen_bd (by omega) T y)
      have cmem : lc (W.map (cen p T)) ∈ W.map (cen p T) := mem_getD c0
      have gC : gcdL (W.map (cen p T)) < 2 ^ 8999 := by
        rcases X.sz with z | z
        · have h1 := Int.natAbs_dvd_natAbs.mpr (gcdL_dvd cmem)
          rw [Int.natAbs_natCast] at h1
          have h2 := Nat.le_of_dvd (by omega) h1
          have h3 := bC _ cmem
          exact Nat.lt_of_le_of_lt (Nat.le_trans h2 h3) (pow_up z (by decide))
        · exact pow_up (X.lucky F z hl2 hi hT).2 (by have := X.hh; omega)
      refine st_seq (st_asg (ev_callP (ea_cons (ev_tupOwn rfl (ea_nil ⟨⟨W.map (cen p T), rfl, by omega, gC, tc, nc⟩, fun d ⟨u, e, ed⟩ => ?_⟩)))))
      obtain rfl : W.map (cen p T) = u := rowD_inj (List.cons.inj e).1
      subst ed
      obtain ⟨r1, r2, r3, r4, r5, s, s0, sb, sv, sk⟩ := rdc_spec tc nc
      obtain ⟨H, hH⟩ : ∃ H, H = rdc (W.map (cen p T)) := ⟨_, rfl⟩
      rw [← hH] at r1 r2 r3 r4 r5 ⊢
      have Hn : H ≠ [] := ne_lc (by omega)
      have nH : n1 H < 2 ^ 9800 := by
        have a := n1_le bC
        rw [lC] at a
        have b := Nat.mul_le_mul lW (Nat.le_of_lt X.pb)
        have c : 40 * 2 ^ 9700 < 2 ^ 9800 := by
          rw [show 9800 = 100 + 9700 by rfl, Nat.pow_add]
          exact Nat.mul_lt_mul_of_pos_right (by decide) (Nat.two_pow_pos _)
        have d := Nat.mul_le_mul_left W.length (Nat.le_of_lt X.pb)
        have e := Nat.mul_le_mul_right (2 ^ 9700) lW
        omega
      have lH : (lc H).natAbs < 2 ^ 8999 := by
        rcases X.sz with z | z
        · have a : (lc H).natAbs ≤ (lc (W.map (cen p T))).natAbs := by
            have : lc (W.map (cen p T)) = s * lc H := by
              unfold lc
              rw [r5, hH]
              exact sk _
            rw [this, Int.natAbs_mul]
            exact Nat.le_mul_of_pos_left _ (by omega)
          have b := bC _ cmem
          exact Nat.lt_of_le_of_lt (Nat.le_trans a b) (pow_up z (by decide))
        · have a := (X.lucky F z hl2 hi hT).1
          rw [← hH] at a
          obtain ⟨Q1, e1⟩ := X.I.df
          have b := lc_dvd X.tf nf (show lc G ≠ 0 by have := X.I.ld; omega) e1
          have c := Nat.le_of_dvd (by omega) (Int.natAbs_dvd_natAbs.mpr b)
          have d := Nat.lt_of_le_of_lt (lc_n1 f) (pow_up X.hf X.hh)
          rw [a]
          exact Nat.lt_of_le_of_lt c (pow_up d (by decide))
      have hf := pow_up X.hf (show h0 ≤ 9800 by have := X.hh; omega)
      have hg := pow_up X.hg (show h0 ≤ 9800 by have := X.hh; omega)
      have no : (¬ ∃ Q, ∀ x, pI f x = pI H x * pI Q x) ∨ (¬ ∃ Q, ∀ x, pI g x = pI H x * pI Q x) → post_guessed_divisor [rowD f, rowD g, .int p] .none := fun hd => by
        refine ⟨f, g, p, rfl, .inl rfl, fun G B h Y lk _ => ?_⟩
        have a := (Y.lucky F lk hl2 hi hT).1
        rw [← hH] at a
        rcases hd with z | z
        · exact z (by rw [a]; exact Y.I.df)
        · exact z (by rw [a]; exact Y.I.dg)
      refine st_seq (st_if (et_or (et_B (ev_isN (ev_callP (ea_cons (ev_var rfl (ea_cons (ev_var rfl (ea_nil ⟨⟨f, H, rfl, Hn, r2, lH, lf, by omega, hf, nH⟩, fun d ⟨u, v, e, hd⟩ => ?_⟩))))))))))
      obtain ⟨rfl, rfl⟩ := row2_inj e
      rcases hd with ⟨rfl, hd⟩ | ⟨Q1, rfl, e1, _⟩
      · exact ⟨true, rfl, (fun z => nomatch z), fun _ => ⟨fun _ => st_ret (ev_non (no (.inl hd))), fun z => nomatch z⟩⟩
      · refine ⟨false, rfl, fun _ => ?_, fun z => nomatch z⟩
        refine et_B (ev_isN (ev_callP (ea_cons (ev_var rfl (ea_cons (ev_var rfl (ea_nil ⟨⟨g, H, rfl, Hn, r2, lH, lg', by omega, hg, nH⟩, fun d ⟨u, v, e, hd⟩ => ?_⟩)))))))
        obtain ⟨rfl, rfl⟩ := row2_inj e
        rcases hd with ⟨rfl, hd⟩ | ⟨Q2, rfl, e2, _⟩
        · exact ⟨true, rfl, fun _ => st_ret (ev_non (no (.inr hd))), fun z => nomatch z⟩
        · refine ⟨false, rfl, (fun z => nomatch z), fun _ => st_next (st_ret (ev_var rfl ⟨f, g, p, rfl, .inr ⟨G, B0, X.I, ?_⟩, fun _ _ _ _ _ z => nomatch z⟩))⟩
          rw [X.guess F (by omega) r1 r2 r3 ⟨Q1, e1⟩ ⟨Q2, e2⟩]
theorem ok_guessed_divisor (T : Tx K mg) : FnOk P w K mg base CX0 4 T.a_guessed_divisor T.d_guessed_divisor p_guessed_divisor (sp_guessed_divisor K) := by
  refine T.F_guessed_divisor.ok sc_guessed_divisor (fun vs H Q E h => len_guessed_divisor K vs H Q E h) (fun cdv A outer s H vs Q E hr h => ?_)
  exact ⟨t_guessed_divisor K, (pss_cons (ps_if (PW.pt (pw_or (pt_cmpR op_eq (pe_op op_modA (pe_ix ix_seq (pv 0) (pe_un un_neg pe_int) (fun _ _ => rfl)) (pv 2)) pe_int (nomark _)) (pw_or1 (pt_cmpR op_eq (pe_op op_modA (pe_ix ix_seq (pv 1) (pe_un un_neg pe_int) (fun _ _ => rfl)) (pv 2)) pe_int (nomark _))))) (pss_one (ps_ret pe_non)) pss_nil)
  (pss_cons (ps_set (i := 3) sc_guessed_divisor.nd rfl (Or.inl rfl) (pe_call (ok_divisor_modulo T) (hr.mono (by decide)) rfl T.g_divisor_modulo T.F_divisor_modulo.kp (b_divisor_modulo T) .nil pass0 (pa_cons (pv 0) (pa_cons (pv 1) (pa_cons (pv 2) pa_nil)))))
  (pss_cons (ps_if (pt_cmpR op_eq (pe_callB call_len_seq (by rfl) T.n_len (by decide +kernel) (pa_cons (pv 3) pa_nil)) pe_int (nomark _)) (pss_one (ps_ret (pe_tup (pa_cons pe_int pa_nil)))) pss_nil)
  (pss_cons (ps_set (i := 4) sc_guessed_divisor.nd rfl (Or.inl rfl) (pe_call (ok_content T) (hr.mono (by decide)) rfl T.g_content T.F_content.kp (b_content T) .nil pass0 (pa_cons (pe_tup (pa_cons (pe_ix ix_seq (pv 0) (pe_un un_neg pe_int) (fun _ _ => rfl)) (pa_cons (pe_ix ix_seq (pv 1) (pe_un un_neg pe_int) (fun _ _ => rfl)) pa_nil))) pa_nil)))
  (pss_cons (ps_set (i := 5) sc_guessed_divisor.nd rfl (Or.inl rfl) (pe_op op_modA (pe_op op_mulA (pv 4) (pe_call (ok_inverse_modulo T) (hr.mono (by decide)) rfl T.g_inverse_modulo T.F_inverse_modulo.kp (b_inverse_modulo T) .nil pass0 (pa_cons (pe_ix ix_seq (pv 3) (pe_un un_neg pe_int) (fun _ _ => rfl)) (pa_cons (pv 2) pa_nil)))) (pv 2)))
  (pss_cons (ps_set (i := 6) sc_guessed_divisor.nd rfl (Or.inl rfl) (pe_lst pa_nil))
  (pss_cons (ps_for PassesOwn.never rfl (pi_tup (pv 3)) (pg_name (i := 7) sc_guessed_divisor.nd rfl (Or.inl rfl)) (pss_cons (ps_set (i := 7) sc_guessed_divisor.nd rfl (Or.inl rfl) (pe_op op_modA (pe_op op_mulA (pv 7) (pv 5)) (pv 2)))
  (pss_one (ps_expr (pe_bm PySem.F.plainAttrs_list PySem.F.slot_list_append PySem.F.type_list_append mt_append (pv 6) (pa_cons (pe_ifExp (pt_cmpR op_gt (pe_op op_mulA pe_int (pv 7)) (pv 2) (nomark _)) (pe_op op_sub (pv 7) (pv 2)) (pv 7)) pa_nil))))))
  (pss_cons (ps_set (i := 8) sc_guessed_divisor.nd rfl (Or.inl rfl) (pe_call (ok_reduced T) (hr.mono (by decide)) rfl T.g_reduced T.F_reduced.kp (b_reduced T) .nil pass0 (pa_cons (pe_callTy call_tuple_of (by rfl) T.n_tuple (by decide +kernel) (pa_cons (pv 6) pa_nil)) pa_nil)))
  (pss_cons (ps_if (PW.pt (pw_or (pt_cmp (pc_isN (pe_call (ok_whole_quotient T) (hr.mono (by decide)) rfl T.g_whole_quotient T.F_whole_quotient.kp (b_whole_quotient T) .nil pass0 (pa_cons (pv 0) (pa_cons (pv 8) pa_nil))))) (pw_or1 (pt_cmp (pc_isN (pe_call (ok_whole_quotient T) (hr.mono (by decide)) rfl T.g_whole_quotient T.F_whole_quotient.kp (b_whole_quotient T) .nil pass0 (pa_cons (pv 1) (pa_cons (pv 8) pa_nil)))))))) (pss_one (ps_ret pe_non)) pss_nil)
  (pss_one (ps_ret (pv 8)))))))))))), pure_guessed_divisor K vs H Q E h⟩
/-! ### divisor_by_rests -/

def pre_divisor_by_rests : List PyData → Prop := fun ds => ∃ a b : PyData, ds = [a, b] ∧ False
def post_divisor_by_rests : List PyData → PyData → Prop := fun ds d => True
abbrev sp_divisor_by_rests (K : PySem.W.Frag) : Sp := SpP K pre_divisor_by_rests post_divisor_by_rests
theorem len_divisor_by_rests (K : PySem.W.Frag) (vs : List V) (H : Hp) (Q : VK) (E : XK) (h : sp_divisor_by_rests K vs H Q E) : vs.length = p_divisor_by_rests.length := len_P (n := 2) h fun ds hp => by
  obtain ⟨a, b, e, no⟩ := hp
  rw [e]; rfl
def t_divisor_by_rests (K : PySem.W.Frag) : TS :=
  (tSeq (tWhile (tTru K (tVar 1)) (tSeq (tIfS (tTest (tOp (rI0 fun i j => .bl (decide (i < j))) (tCB (rLenQ K) (tCons (tVar 0) tNil)) (tCB (rLenQ K) (tCons (tVar 1) tNil)))) (tPar 0 1 (tCons (tVar 1) (tCons (tVar 0) tNil))) tNext)
  (tSeq (tAsg (tVar 0) (gName 2))
  (tSeq (tWhile (tTest (tOp (rI0 fun i j => .bl (decide (j ≤ i))) (tCB (rLenQ K) (tCons (tVar 2) tNil)) (tCB (rLenQ K) (tCons (tVar 1) tNil)))) (tSeq (tAsg (tOp (rAddA K) (tOp (rMulA K) (tTup (tCons (tC (.int 0)) tNil)) (tOp (rI0 fun i j => .int (i - j)) (tCB (rLenQ K) (tCons (tVar 2) tNil)) (tCB (rLenQ K) (tCons (tVar 1) tNil)))) (tVar 1)) (gName 3))
  (tAsg (tCall (sp_blend K) [] E0 (tCons (tVar 2) (tCons (tOp (rIx K) (tVar 1) (tUn (rU fun i => .int (-i)) (tC (.int 1)))) (tCons (tVar 3) (tCons (tUn (rU fun i => .int (-i)) (tOp (rIx K) (tVar 2) (tUn (rU fun i => .int (-i)) (tC (.int 1))))) tNil))))) (gName 2))))
  (tPar 0 1 (tCons (tVar 1) (tCons (tIf (tTru K (tVar 2)) (tCall (sp_thinned K) [] E0 (tCons (tVar 2) tNil)) (tTup tNil)) tNil)))))))
  (tRet (tCall (sp_reduced K) [] E0 (tCons (tVar 0) tNil))))
theorem pure_divisor_by_rests (K : PySem.W.Frag) (vs : List V) (H : Hp) (Q : VK) (E : XK) (h : sp_divisor_by_rests K vs H Q E) : t_divisor_by_rests K { nx := fun _ H' => Q .non H', rt := Q } (L2.start N_divisor_by_rests vs) H := body_P h fun B ds hW hp => by
  obtain ⟨a, b, e, no⟩ := hp
  subst e
  unfold t_divisor_by_rests
  exact no.elim
theorem ok_divisor_by_rests (T : Tx K mg) : FnOk P w K mg base CX0 3 T.a_divisor_by_rests T.d_divisor_by_rests p_divisor_by_rests (sp_divisor_by_rests K) := by
  refine T.F_divisor_by_rests.ok sc_divisor_by_rests (fun vs H Q E h => len_divisor_by_rests K vs H Q E h) (fun cdv A outer s H vs Q E hr h => ?_)
  exact ⟨t_divisor_by_rests K, (pss_cons (ps_while PassesOwn.never (pt_truth (pv 1) (by intro _; rfl)) (pss_cons (ps_if (pt_cmpR op_lt (pe_callB call_len_seq (by rfl) T.n_len (by decide +kernel) (pa_cons (pv 0) pa_nil)) (pe_callB call_len_seq (by rfl) T.n_len (by decide +kernel) (pa_cons (pv 1) pa_nil)) (nomark _)) (pss_one (ps_par (by rfl) sc_divisor_by_rests.nd rfl rfl (by decide) rfl rfl (pa_cons (pv 1) (pa_cons (pv 0) pa_nil)) (by rfl))) pss_nil)
  (pss_cons (ps_set (i := 2) sc_divisor_by_rests.nd rfl (Or.inl rfl) (pv 0))
  (pss_cons (ps_while PassesOwn.never (pt_cmpR op_ge (pe_callB call_len_seq (by rfl) T.n_len (by decide +kernel) (pa_cons (pv 2) pa_nil)) (pe_callB call_len_seq (by rfl) T.n_len (by decide +kernel) (pa_cons (pv 1) pa_nil)) (nomark _)) (pss_cons (ps_set (i := 3) sc_divisor_by_rests.nd rfl (Or.inl rfl) (pe_op op_addA (pe_op op_mulA (pe_tup (pa_cons pe_int pa_nil)) (pe_op op_sub (pe_callB call_len_seq (by rfl) T.n_len (by decide +kernel) (pa_cons (pv 2) pa_nil)) (pe_callB call_len_seq (by rfl) T.n_len (by decide +kernel) (pa_cons (pv 1) pa_nil)))) (pv 1)))
  (pss_one (ps_set (i := 2) sc_divisor_by_rests.nd rfl (Or.inl rfl) (pe_call (ok_blend T) (hr.mono (by decide)) rfl T.g_blend T.F_blend.kp (b_blend T) .nil pass0 (pa_cons (pv 2) (pa_cons (pe_ix ix_seq (pv 1) (pe_un un_neg pe_int) (fun _ _ => rfl)) (pa_cons (pv 3) (pa_cons (pe_un un_neg (pe_ix ix_seq (pv 2) (pe_un un_neg pe_int) (fun _ _ => rfl))) pa_nil)))))))))
  (pss_one (ps_par (by rfl) sc_divisor_by_rests.nd rfl rfl (by decide) rfl rfl (pa_cons (pv 1) (pa_cons (pe_ifExp (pt_truth (pv 2) (by intro _; rfl)) (pe_call (ok_thinned T) (hr.mono (by decide)) rfl T.g_thinned T.F_thinned.kp (b_thinned T) .nil pass0 (pa_cons (pv 2) pa_nil)) (pe_tup pa_nil)) pa_nil)) (by rfl)))))))
  (pss_one (ps_ret (pe_call (ok_reduced T) (hr.mono (by decide)) rfl T.g_reduced T.F_reduced.kp (b_reduced T) .nil pass0 (pa_cons (pv 0) pa_nil))))), pure_divisor_by_rests K vs H Q E h⟩
/-! ### divisor_of_both -/
structure DbK (f g : List Int) (h : Nat) : Prop where
  nf : f ≠ []
  ng : g ≠ []
  tf : f.getLast? ≠ some 0
  tg : g.getLast? ≠ some 0
  lf : f.length ≤ 40
  lg : g.length ≤ 40
  cf : gcdL f < 2 ^ 8999
  cg : gcdL g < 2 ^ 8999
  nf1 : n1 (rdc f) < 2 ^ h
  ng1 : n1 (rdc g) < 2 ^ h
  hh : h ≤ 4000
  ex : ∃ G B, IsG (rdc f) (rdc g) G B ∧ B + h + 3 ≤ 9689
def One (f g : List Int) : Prop := g = [] ∧ f ≠ [] ∧ f.getLast? ≠ some 0 ∧ f.length ≤ 40 ∧ gcdL f < 2 ^ 8999
theorem shl1 (b : Nat) : (1 : Int) * 2 ^ (b : Int).toNat - 1 = 2 ^ b - 1 := by rw [Int.toNat_natCast, Int.one_mul]

def pre_divisor_of_both : List PyData → Prop := fun ds => ∃ (f g : List Int) (h : Nat), ds = [rowD f, rowD g] ∧ (DbK f g h ∨ One f g ∨ One g f)
def post_divisor_of_both : List PyData → PyData → Prop := fun ds d => ∃ f g : List Int, ds = [rowD f, rowD g] ∧ ((f ≠ [] ∧ g ≠ [] ∧ ∃ (G : List Int) (B : Nat), IsG (rdc f) (rdc g) G B ∧ d = rowD G) ∨ (g = [] ∧ d = rowD (rdc f)) ∨ (f = [] ∧ g ≠ [] ∧ d = rowD (rdc g)))
abbrev sp_divisor_of_both (K : PySem.W.Frag) : Sp := SpP K pre_divisor_of_both post_divisor_of_both
theorem len_divisor_of_both (K : PySem.W.Frag) (vs : List V) (H : Hp) (Q : VK) (E : XK) (h : sp_divisor_of_both K vs H Q E) : vs.length = p_divisor_of_both.length := len_P (n := 2) h fun ds hp => by
  obtain ⟨f, g, h, e, X⟩ := hp
  rw [e]; rfl
def t_divisor_of_both (T : Tx K mg) : TS :=
  (tSeq (tIfS (tOr (tNot (tTru K (tVar 0))) (tNot (tTru K (tVar 1)))) (tRet (tCall (sp_reduced K) [] E0 (tCons (tOrT K (tVar 0) (tVar 1)) tNil))) tNext)
  (tSeq (tPar 0 1 (tCons (tCall (sp_reduced K) [] E0 (tCons (tVar 0) tNil)) (tCons (tCall (sp_reduced K) [] E0 (tCons (tVar 1) tNil)) tNil)))
  (tSeq (tFor (iTup K (tC (.ref T.k_PRIME_BITS))) (gName 2) (tSeq (tAsg (tCall (sp_guessed_divisor K) [] E0 (tCons (tVar 0) (tCons (tVar 1) (tCons (tOp (rI0 fun i j => .int (i - j)) (tOp rShlQ (tC (.int 1)) (tVar 2)) (tC (.int 1))) tNil)))) (gName 3))
  (tIfS (tB (tNotN (tVar 3))) (tRet (tVar 3)) tNext)))
  (tRet (tCall (sp_divisor_by_rests K) [] E0 (tCons (tVar 0) (tCons (tVar 1) tNil)))))))
theorem pure_divisor_of_both (T : Tx K mg) (vs : List V) (H : Hp) (Q : VK) (E : XK) (h : sp_divisor_of_both K vs H Q E) : t_divisor_of_both T { nx := fun _ H' => Q .non H', rt := Q } (L2.start N_divisor_of_both vs) H := body_P h fun B ds hW hp => by
  obtain ⟨f, g, h, e, X⟩ := hp
  subst e
  unfold t_divisor_of_both
  have tru : ∀ {u : List Int}, u ≠ [] → truD (rowD u) = true := fun {u} hu => by
    cases u with
    | nil => exact (hu rfl).elim
    | cons a r => rfl
  rcases X with X | ⟨rfl, nf, tf, lf, cf⟩ | ⟨rfl, ng, tg, lg, cg⟩
  rotate_left
  · have t1 : truD (rowD f) = true := tru nf
    refine st_seq (st_if (et_or (et_not (et_tru (ev_var rfl ⟨trivial, ⟨fun _ => ?_, fun z => by rw [t1] at z; cases z⟩⟩)))))
    refine et_not (et_tru (ev_var rfl ⟨trivial, ⟨fun _ => ?_, fun z => nomatch z⟩⟩))
    refine st_ret (ev_callP (ea_cons (ev_orT (ev_var rfl ⟨⟨f.map .int, rfl⟩, fun _ => ea_nil ⟨⟨f, rfl, by omega, cf, tf, nf⟩, fun d ⟨w, ew, ed⟩ => ?_⟩, fun z => by have z : truD (rowD f) = false := z; rw [t1] at z; cases z⟩))))
    obtain rfl : f = w := rowD_inj (List.cons.inj ew).1
    exact ⟨f, [], rfl, .inr (.inl ⟨rfl, ed⟩)⟩
  · have t2 : truD (rowD g) = true := tru ng
    refine st_seq (st_if (et_or (et_not (et_tru (ev_var rfl ⟨trivial, ⟨(fun z => nomatch z), fun _ => ⟨fun _ => ?_, fun z => nomatch z⟩⟩⟩)))))
    refine st_ret (ev_callP (ea_cons (ev_orT (ev_var rfl ⟨⟨[], rfl⟩, (fun z => nomatch z), fun _ => ev_var rfl (ea_nil ⟨⟨g, rfl, by omega, cg, tg, ng⟩, fun d ⟨w, ew, ed⟩ => ?_⟩)⟩))))
    obtain rfl : g = w := rowD_inj (List.cons.inj ew).1
    exact ⟨[], g, rfl, .inr (.inr ⟨rfl, ng, ed⟩)⟩
  have nf := X.nf
  have ng := X.ng
  have l1 := X.lf
  have l2 := X.lg
  obtain ⟨a1, a2, a3, a4, a5, _⟩ := rdc_spec X.tf nf
  obtain ⟨b1, b2, b3, b4, b5, _⟩ := rdc_spec X.tg ng
  have t1 : truD (rowD f) = true := tru nf
  have t2 : truD (rowD g) = true := tru ng
  refine st_seq (st_if (et_or (et_not (et_tru (ev_var rfl ⟨trivial, ⟨fun _ => ?_, fun z => by rw [t1] at z; cases z⟩⟩)))))
  refine et_not (et_tru (ev_var rfl ⟨trivial, ⟨(fun z => by rw [t2] at z; cases z), fun _ => st_next ?_⟩⟩))
  obtain ⟨F, hF⟩ : ∃ F, F = rdc f := ⟨_, rfl⟩
  obtain ⟨D, hD⟩ : ∃ D, D = rdc g := ⟨_, rfl⟩
  refine st_seq (st_par (ea_cons (ev_callP (ea_cons (ev_var rfl (ea_nil ⟨⟨f, rfl, by omega, X.cf, X.tf, nf⟩, fun d ⟨w, ew, ed⟩ => ?_⟩))))))
  obtain rfl : f = w := rowD_inj (List.cons.inj ew).1
  subst ed
  refine ea_cons (ev_callP (ea_cons (ev_var rfl (ea_nil ⟨⟨g, rfl, by omega, X.cg, X.tg, ng⟩, fun d ⟨w, ew, ed⟩ => ?_⟩))))
  obtain rfl : g = w := rowD_inj (List.cons.inj ew).1
  subst ed
  refine ea_nil ⟨_, _, rfl, ?_⟩
  rw [← hF, ← hD]
  rw [← hF] at a1 a2 a3 a4 a5
  rw [← hD] at b1 b2 b3 b4 b5
  have nF : F ≠ [] := ne_lc (by omega)
  have nD : D ≠ [] := ne_lc (by omega)
  have hFb : n1 F < 2 ^ h := by rw [hF]; exact X.nf1
  have hDb : n1 D < 2 ^ h := by rw [hD]; exact X.ng1
  obtain ⟨G, B, I, lk⟩ := X.ex
  rw [← hF, ← hD] at I
  have lucky : 2 * 2 ^ (B + h) < ((2 : Int) ^ 9689 - 1).natAbs := by
    rw [mers_abs]
    have : 2 ^ (B + h + 3) ≤ 2 ^ 9689 := Nat.pow_le_pow_right (by decide) (by omega)
    rw [Nat.pow_add] at this
    have := Nat.two_pow_pos (B + h)
    omega
  have pre : ∀ {i b : Nat}, Pr ((2 : Int) ^ b - 1) → b ≤ 9689 → (b < 4300 ∨ (i = 5 ∧ b = 9689)) → GPre F D ((2 : Int) ^ b - 1) G B h := fun {i b} P hb hc => by
    refine ⟨P, ?_, I, a3, b3, nF, nD, by omega, by omega, hFb, hDb, X.hh, ?_⟩
    · rw [mers_abs]
      have : 2 ^ b < 2 ^ 9700 := Nat.pow_lt_pow_right (by decide) (by omega)
      omega
    · rcases hc with q | ⟨_, rfl⟩
      · left
        rw [mers_abs]
        have : 2 ^ b < 2 ^ 4300 := Nat.pow_lt_pow_right (by decide) q
        omega
      · exact .inr lucky
  refine st_seq (st_forT (ev_ct T.v_PRIME_BITS ⟨_, rfl, fun i L2 Γ2 => i ≤ 5 ∧ ∃ s2 s3 : Sl, L2 = [] ∧ Γ2 = [.d (rowD F), .d (rowD D), s2, s3], ⟨Nat.zero_le _, _, _, rfl, rfl⟩, ?_, ?_⟩))
  · rintro i d' L2 Γ2 gg hi ⟨i5, s2, s3, rfl, rfl⟩
    obtain ⟨b, hb, P, b9, hc⟩ := prime_at i5
    have ed : d' = .int (b : Int) := by
      have h1 : (pBits.map PyData.int)[i]? = some d' := hi
      rw [List.getElem?_map, hb] at h1
      exact (Option.some.inj h1).symm
    subst ed
    refine st_seq (st_asg (ev_callP (ea_cons (ev_var rfl (ea_cons (ev_var rfl (ea_cons (ev_op (ev_op (ev_int (ev_var rfl (ro_shl ?_ (ev_int (rok_i0 ?_))))))))))))))
    · exact shl_ok (n := 1) (by decide) (by omega)
    · rw [shl1]
      refine ea_nil ⟨⟨F, D, _, G, B, h, rfl, pre (i := i) P b9 hc⟩, fun d ⟨f', g', p', e, hd, hn⟩ => ?_⟩
      obtain ⟨rfl, rfl, rfl⟩ := three_inj e
      refine st_if (et_B (ev_notN (ev_var rfl ?_)))
      rcases hd with rfl | ⟨G', B', I', rfl⟩
      · refine ⟨false, rfl, (fun z => nomatch z), fun _ => st_next ⟨?_, _, _, rfl, rfl⟩⟩
        rcases hc with q | ⟨rfl, rfl⟩
        · rcases Nat.lt_or_ge i 5 with w | w
          · exact w
          · exfalso
            obtain rfl : i = 5 := by omega
            have e5 : (9689 : Int) = b := Option.some.inj hb
            omega
        · exact (hn G B h (pre (i := 5) P b9 (.inr ⟨rfl, rfl⟩)) lucky rfl).elim
      · refine ⟨true, rfl, fun _ => st_ret (ev_var rfl ?_), fun z => nomatch z⟩
        exact ⟨f, g, rfl, .inl ⟨nf, ng, G', B', by rw [← hF, ← hD]; exact I', rfl⟩⟩
  · rintro L2 Γ2 ⟨i5, _⟩
    exact absurd i5 (by decide)
theorem ok_divisor_of_both (T : Tx K mg) : FnOk P w K mg base CX0 5 T.a_divisor_of_both T.d_divisor_of_both p_divisor_of_both (sp_divisor_of_both K) := by
  refine T.F_divisor_of_both.ok sc_divisor_of_both (fun vs H Q E h => len_divisor_of_both K vs H Q E h) (fun cdv A outer s H vs Q E hr h => ?_)
  exact ⟨t_divisor_of_both T, (pss_cons (ps_if (PW.pt (pw_or (pt_not (pt_truth (pv 0) (by intro _; rfl))) (pw_or1 (pt_not (pt_truth (pv 1) (by intro _; rfl)))))) (pss_one (ps_ret (pe_call (ok_reduced T) (hr.mono (by decide)) rfl T.g_reduced T.F_reduced.kp (b_reduced T) .nil pass0 (pa_cons (pe_orT (pv 0) (pe_one (pv 1))) pa_nil)))) pss_nil)
  (pss_cons (ps_par (by rfl) sc_divisor_of_both.nd rfl rfl (by decide) rfl rfl (pa_cons (pe_call (ok_reduced T) (hr.mono (by decide)) rfl T.g_reduced T.F_reduced.kp (b_reduced T) .nil pass0 (pa_cons (pv 0) pa_nil)) (pa_cons (pe_call (ok_reduced T) (hr.mono (by decide)) rfl T.g_reduced T.F_reduced.kp (b_reduced T) .nil pass0 (pa_cons (pv 1) pa_nil)) pa_nil)) (by rfl))
  (pss_cons (ps_for PassesOwn.never rfl (pi_tup (pe_glob rfl T.c_PRIME_BITS rfl)) (pg_name (i := 2) sc_divisor_of_both.nd rfl (Or.inl rfl)) (pss_cons (ps_set (i := 3) sc_divisor_of_both.nd rfl (Or.inl rfl) (pe_call (ok_guessed_divisor T) (hr.mono (by decide)) rfl T.g_guessed_divisor T.F_guessed_divisor.kp (b_guessed_divisor T) .nil pass0 (pa_cons (pv 0) (pa_cons (pv 1) (pa_cons (pe_op op_sub (pe_op op_shlQ pe_int (pv 2)) pe_int) pa_nil)))))
  (pss_one (ps_if (pt_cmp (pc_notN (pv 3))) (pss_one (ps_ret (pv 3))) pss_nil))))
  (pss_one (ps_ret (pe_call (ok_divisor_by_rests T) (hr.mono (by decide)) rfl T.g_divisor_by_rests T.F_divisor_by_rests.kp (b_divisor_by_rests T) .nil pass0 (pa_cons (pv 0) (pa_cons (pv 1) pa_nil)))))))), pure_divisor_of_both T vs H Q E h⟩
/-! ### is_polynomial -/
def isPolyD : PyData → Bool
  | .tuple es => es.all isWholeD && (es.isEmpty || (match es.getLast? with | some (.int x) => !decide (x = 0) | _ => false))
  | _ => false
theorem poly_ok {u : List Int} (t : u.getLast? ≠ some 0) : isPolyD (rowD u) = true := by
  show ((u.map PyData.int).all isWholeD && ((u.map PyData.int).isEmpty || (match (u.map PyData.int).getLast? with | some (.int x) => !decide (x = 0) | _ => false))) = true
  have a : (u.map PyData.int).all isWholeD = true := by
    rw [List.all_map]
    exact List.all_eq_true.mpr fun x _ => rfl
  rw [a, List.getLast?_map]
  cases e : u.getLast? with
  | none =>
    have : u = [] := List.getLast?_eq_none_iff.mp e
    subst this
    rfl
  | some x =>
    have : x ≠ 0 := fun z => t (by rw [e, z])
    have h2 : (!decide (x = 0)) = true := by simp [this]
    show (true && (_ || !decide (x = 0))) = true
    rw [h2, Bool.or_true]
    rfl

def pre_is_polynomial : List PyData → Prop := fun ds => ∃ v, ds = [v] ∧ ∀ es, v = .tuple es → es.length ≤ 1000
def post_is_polynomial : List PyData → PyData → Prop := fun ds d => ∃ v, ds = [v] ∧ d = .bool (isPolyD v)
abbrev sp_is_polynomial (K : PySem.W.Frag) : Sp := SpP K pre_is_polynomial post_is_polynomial
theorem len_is_polynomial (K : PySem.W.Frag) (vs : List V) (H : Hp) (Q : VK) (E : XK) (h : sp_is_polynomial K vs H Q E) : vs.length = p_is_polynomial.length := len_P (n := 1) h fun ds hp => by
  obtain ⟨v, e, hl⟩ := hp
  rw [e]; rfl
def t_is_polynomial (K : PySem.W.Frag) : TS :=
  (tSeq (tIfS (tNot (tB (tCB (rIsi K) (tCons (tVar 0) (tCons (tC (.ty "tuple")) tNil))))) (tRet (tC (.bl false))) tNext)
  (tSeq (tIfS (tNot (tB (tCB (rAll K) (tCons (tLc (iTup K (tVar 0)) (gName 1) tYes (tCall (sp_is_whole K) [] E0 (tCons (tVar 1) tNil)) [1]) tNil)))) (tRet (tC (.bl false))) tNext)
  (tRet (tOrV (tOp rEq (tCB (rLenQ K) (tCons (tVar 0) tNil)) (tC (.int 0))) (tOp rNe (tOp (rIx K) (tVar 0) (tUn (rU fun i => .int (-i)) (tC (.int 1)))) (tC (.int 0)))))))
theorem pure_is_polynomial (K : PySem.W.Frag) (vs : List V) (H : Hp) (Q : VK) (E : XK) (h : sp_is_polynomial K vs H Q E) : t_is_polynomial K { nx := fun _ H' => Q .non H', rt := Q } (L2.start N_is_polynomial vs) H := body_P h fun B ds hW hp => by
  obtain ⟨v, e, hl⟩ := hp
  subst e
  unfold t_is_polynomial

  refine st_seq (st_if (et_not (et_B (ev_isiTup (ev_var rfl ⟨_, rfl, fun hb => ?_, fun hb => ?_⟩)))))
  · refine st_ret (ev_bl ⟨v, rfl, ?_⟩)
    cases v <;> first | rfl | cases hb
  obtain ⟨es, rfl⟩ : ∃ es, v = .tuple es := by
    cases v <;> first | exact ⟨_, rfl⟩ | cases hb
  have l1 := hl es rfl
  refine st_next (st_seq (st_if (et_not (et_B (ev_cb (ea_cons (ev_new (en_lcT (wipe1 1) (ev_var rfl ⟨_, rfl, by omega, fun i acc => acc = ((es.take i).map isWholeD).map PyData.bool, ⟨rfl, fun i D d' acc hi hJ hin => ?_⟩, fun acc hJ => ?_⟩)))))))))
  · refine et_yes ⟨fun _ => ?_, fun z => nomatch z⟩
    refine ev_callP (ea_cons (ev_var rfl (ea_nil ⟨⟨_, rfl⟩, fun d ⟨v, ev, ed⟩ => ?_⟩)))
    cases ev
    subst ed
    subst hJ
    rw [List.take_add_one, hi, List.map_append, List.map_append]
    rfl
  · refine ea_nil ?_
    rw [hJ, List.take_length]
    have ea : (es.map isWholeD).all id = es.all isWholeD := by rw [List.all_map]; rfl
    refine cok_all ⟨_, rfl, fun hb => ?_, fun hb => ?_⟩
    · have hb : (!(es.map isWholeD).all id) = true := hb
      rw [ea] at hb
      refine st_ret (ev_bl ⟨_, rfl, ?_⟩)
      show PyData.bool false = .bool (es.all isWholeD && _)
      have : es.all isWholeD = false := by simpa using hb
      rw [this]
      rfl
    · have hb : (!(es.map isWholeD).all id) = false := hb
      rw [ea] at hb
      have hall : es.all isWholeD = true := by simpa using hb
      refine st_next (st_ret (ev_orV ?_))
      walk_at "dd"
      refine ⟨fun hb2 => ?_, fun hb2 => ?_⟩
      · have hne : es ≠ [] := by
          intro z
          rw [z] at hb2
          simp at hb2
        obtain ⟨y, hy⟩ : ∃ y, es.getLast? = some y := ⟨_, List.getLast?_eq_some_getLast hne⟩
        obtain ⟨x, rfl⟩ := isWholeD_true (List.all_eq_true.mp hall y (List.mem_of_getLast? hy))
        walk_at "dd"
        refine rok_ixsT (d := .int x) ?_ ?_
        · unfold atI ixN
          have hp := List.length_pos_iff.mpr hne
          rw [if_neg (by omega), if_pos (by omega)]
          show es[_]? = _
          rw [show (-1 + (es.length : Int)).toNat = es.length - 1 by omega, ← List.getLast?_eq_getElem?, hy]
        · walk_at "dd"
          refine ⟨_, rfl, ?_⟩
          show PyData.bool (!decide (x = 0)) = .bool (es.all isWholeD && (es.isEmpty || (match es.getLast? with | some (.int x) => !decide (x = 0) | _ => false)))
          have em : es.isEmpty = false := by simpa using hne
          rw [hall, em, hy]
          rfl
      · have z : es = [] := by
          have := of_decide_eq_true hb2
          exact List.length_eq_zero_iff.mp (by omega)
        subst z
        exact ⟨_, rfl, rfl⟩
theorem ok_is_polynomial (T : Tx K mg) : FnOk P w K mg base CX0 2 T.a_is_polynomial T.d_is_polynomial p_is_polynomial (sp_is_polynomial K) := by
  refine T.F_is_polynomial.ok sc_is_polynomial (fun vs H Q E h => len_is_polynomial K vs H Q E h) (fun cdv A outer s H vs Q E hr h => ?_)
  exact ⟨t_is_polynomial K, (pss_cons (ps_if (pt_not (pt_val (pe_callB call_isi (by rfl) T.n_isinstance (by decide +kernel) (pa_cons (pv 0) (pa_cons (pe_bltn (v := .ty "tuple") (by rfl) T.n_tuple (by decide +kernel) rfl) pa_nil))))) (pss_one (ps_ret pe_bl)) pss_nil)
  (pss_cons (ps_if (pt_not (pt_val (pe_callB (cr_all rfl) (by rfl) T.n_all (by decide +kernel) (pa_cons (pe_lc (own := [("number", 1)]) (by rfl) sc_is_polynomial.nd (pi_tup (pv 0)) (blkOk_by (own := [("number", 1)]) (N := N_is_polynomial) (sc := defScope s_is_polynomial) (by decide +kernel)) (fun _ _ _ _ _ => pg_name (i := 1) sc_is_polynomial.nd rfl (Or.inl rfl)) (fun _ _ _ _ _ => pts_nil) (fun _ _ _ _ _ => (pe_call (ok_is_whole T) (hr.mono (by decide)) rfl T.g_is_whole T.F_is_whole.kp (b_is_whole T) .nil pass0 (pa_cons (pv 1) pa_nil)))) pa_nil)))) (pss_one (ps_ret pe_bl)) pss_nil)
  (pss_one (ps_ret (pe_or (pe_cmpR op_eq (pe_callB call_len_seq (by rfl) T.n_len (by decide +kernel) (pa_cons (pv 0) pa_nil)) pe_int (nomark _)) (pe_one (pe_cmpR op_ne (pe_ix ix_seq (pv 0) (pe_un un_neg pe_int) (fun _ _ => rfl)) pe_int (nomark _)))))))), pure_is_polynomial K vs H Q E h⟩
/-! ### check_polynomial -/

def pre_check_polynomial : List PyData → Prop := fun ds => ∃ u : List Int, ds = [rowD u] ∧ u.length ≤ 400 ∧ u.getLast? ≠ some 0
def post_check_polynomial : List PyData → PyData → Prop := fun ds d => d = .none
abbrev sp_check_polynomial (K : PySem.W.Frag) : Sp := SpP K pre_check_polynomial post_check_polynomial
theorem len_check_polynomial (K : PySem.W.Frag) (vs : List V) (H : Hp) (Q : VK) (E : XK) (h : sp_check_polynomial K vs H Q E) : vs.length = p_check_polynomial.length := len_P (n := 1) h fun ds hp => by
  obtain ⟨u, e, hl, tu⟩ := hp
  rw [e]; rfl
def t_check_polynomial (K : PySem.W.Frag) : TS :=
  (tIfS (tNot (tB (tCall (sp_is_polynomial K) [] E0 (tCons (tVar 0) tNil)))) tNever tNext)
theorem pure_check_polynomial (K : PySem.W.Frag) (vs : List V) (H : Hp) (Q : VK) (E : XK) (h : sp_check_polynomial K vs H Q E) : t_check_polynomial K { nx := fun _ H' => Q .non H', rt := Q } (L2.start N_check_polynomial vs) H := body_P h fun B ds hW hp => by
  obtain ⟨u, e, hl, tu⟩ := hp
  subst e
  unfold t_check_polynomial

  refine st_if (et_not (et_B (ev_callP (ea_cons (ev_var rfl (ea_nil ⟨⟨rowD u, rfl, fun es e => ?_⟩, fun r ⟨v, ev, er⟩ => ?_⟩))))))
  · have := PyData.tuple.inj e
    rw [← this, List.length_map]
    omega
  obtain rfl := (List.cons.inj ev).1
  rw [poly_ok tu] at er
  exact ⟨true, er, (fun z => nomatch z), fun _ => st_next rfl⟩
theorem ok_check_polynomial (T : Tx K mg) : FnOk P w K mg base CX0 3 T.a_check_polynomial T.d_check_polynomial p_check_polynomial (sp_check_polynomial K) := by
  refine T.F_check_polynomial.ok sc_check_polynomial (fun vs H Q E h => len_check_polynomial K vs H Q E h) (fun cdv A outer s H vs Q E hr h => ?_)
  exact ⟨t_check_polynomial K, (pss_one (ps_if (pt_not (pt_val (pe_call (ok_is_polynomial T) (hr.mono (by decide)) rfl T.g_is_polynomial T.F_is_polynomial.kp (b_is_polynomial T) .nil pass0 (pa_cons (pv 0) pa_nil)))) (pss_one ps_never) pss_nil)), pure_check_polynomial K vs H Q E h⟩
/-! ### check_fraction -/

def pre_check_fraction : List PyData → Prop := fun ds => ∃ x : Fr, ds = [frD x] ∧ FOk x
def post_check_fraction : List PyData → PyData → Prop := fun ds d => d = .none
abbrev sp_check_fraction (K : PySem.W.Frag) : Sp := SpP K pre_check_fraction post_check_fraction
theorem len_check_fraction (K : PySem.W.Frag) (vs : List V) (H : Hp) (Q : VK) (E : XK) (h : sp_check_fraction K vs H Q E) : vs.length = p_check_fraction.length := len_P (n := 1) h fun ds hp => by
  obtain ⟨x, e, hx⟩ := hp
  rw [e]; rfl
def t_check_fraction (K : PySem.W.Frag) : TS :=
  (tIfS (tNot (tB (tCall (sp_is_fraction K) [] E0 (tCons (tVar 0) tNil)))) tNever tNext)
theorem pure_check_fraction (K : PySem.W.Frag) (vs : List V) (H : Hp) (Q : VK) (E : XK) (h : sp_check_fraction K vs H Q E) : t_check_fraction K { nx := fun _ H' => Q .non H', rt := Q } (L2.start N_check_fraction vs) H := body_P h fun B ds hW hp => by
  obtain ⟨x, e, hx⟩ := hp
  subst e
  unfold t_check_fraction

  refine st_if (et_not (et_B (ev_callP (ea_cons (ev_var rfl (ea_nil ⟨⟨_, rfl⟩, fun r ⟨v, ev, er⟩ => ?_⟩))))))
  obtain rfl := (List.cons.inj ev).1
  rw [show isFracD (frD x) = true from isFracD_of hx.1 hx.2] at er
  exact ⟨true, er, (fun z => nomatch z), fun _ => st_next rfl⟩
theorem ok_check_fraction (T : Tx K mg) : FnOk P w K mg base CX0 3 T.a_check_fraction T.d_check_fraction p_check_fraction (sp_check_fraction K) := by
  refine T.F_check_fraction.ok sc_check_fraction (fun vs H Q E h => len_check_fraction K vs H Q E h) (fun cdv A outer s H vs Q E hr h => ?_)
  exact ⟨t_check_fraction K, (pss_one (ps_if (pt_not (pt_val (pe_call (ok_is_fraction T) (hr.mono (by decide)) rfl T.g_is_fraction T.F_is_fraction.kp (b_is_fraction T) .nil pass0 (pa_cons (pv 0) pa_nil)))) (pss_one ps_never) pss_nil)), pure_check_fraction K vs H Q E h⟩
/-! ### value_at -/
theorem tx02 {u v : List Int} {x y : Fr} (h : [rowD u, frD x] = [rowD v, frD y]) : u = v ∧ x = y := by
  simp only [List.cons.injEq, and_true] at h
  exact ⟨rowD_inj h.1, frD_inj h.2⟩
def pre_value_at : List PyData → Prop := fun ds => ∃ (u : List Int) (x : Fr), ds = [rowD u, frD x] ∧ u.length ≤ 30 ∧ n1 u < 2 ^ 100 ∧ u.getLast? ≠ some 0 ∧ FOk x ∧ x.1.natAbs < 2 ^ 6 ∧ x.2 < 2 ^ 6
def post_value_at : List PyData → PyData → Prop := fun ds d => ∃ (u : List Int) (x r : Fr), ds = [rowD u, frD x] ∧ d = frD r ∧ FOk r ∧ val r = pI u (val x)
abbrev sp_value_at (K : PySem.W.Frag) : Sp := SpP K pre_value_at post_value_at
theorem len_value_at (K : PySem.W.Frag) (vs : List V) (H : Hp) (Q : VK) (E : XK) (h : sp_value_at K vs H Q E) : vs.length = p_value_at.length := len_P (n := 2) h fun ds hp => by
  obtain ⟨u, x, e, hl, nu, tu, fx, x1, x2⟩ := hp
  rw [e]; rfl
def t_value_at (K : PySem.W.Frag) : TS :=
  (tSeq (tDrop (tCall (sp_check_polynomial K) [] E0 (tCons (tVar 0) tNil)))
  (tSeq (tDrop (tCall (sp_check_fraction K) [] E0 (tCons (tVar 1) tNil)))
  (tRet (tCall (sp_fraction_value K) [] E0 (tCons (tVar 0) (tCons (tVar 1) tNil))))))
theorem pure_value_at (K : PySem.W.Frag) (vs : List V) (H : Hp) (Q : VK) (E : XK) (h : sp_value_at K vs H Q E) : t_value_at K { nx := fun _ H' => Q .non H', rt := Q } (L2.start N_value_at vs) H := body_P h fun B ds hW hp => by
  obtain ⟨u, x, e, hl, nu, tu, fx, x1, x2⟩ := hp
  subst e
  unfold t_value_at

  have x0 := fx.1
  refine st_seq (st_drop (ev_callP (ea_cons (ev_var rfl (ea_nil ⟨⟨u, rfl, by omega, tu⟩, fun d ed => ?_⟩)))))
  refine st_seq (st_drop (ev_callP (ea_cons (ev_var rfl (ea_nil ⟨⟨x, rfl, fx⟩, fun d ed => ?_⟩)))))
  refine st_ret (ev_callP (ea_cons (ev_var rfl (ea_cons (ev_var rfl (ea_nil ⟨⟨u, x, rfl, hl, n1_bd (pow_up nu (by decide)), fx, x1, by have : (2 : Int) ^ 6 = 64 := rfl; have : (2 : Nat) ^ 6 = 64 := rfl; omega⟩, fun d ⟨u', x', r, e, ed, f, v, _, _⟩ => ?_⟩))))))
  obtain ⟨rfl, rfl⟩ := tx02 e
  exact ⟨u, x, r, rfl, ed, f, by rw [v, ev_is]⟩
theorem ok_value_at (T : Tx K mg) : FnOk P w K mg base CX0 4 T.a_value_at T.d_value_at p_value_at (sp_value_at K) := by
  refine T.F_value_at.ok sc_value_at (fun vs H Q E h => len_value_at K vs H Q E h) (fun cdv A outer s H vs Q E hr h => ?_)
  exact ⟨t_value_at K, (pss_cons (ps_expr (pe_call (ok_check_polynomial T) (hr.mono (by decide)) rfl T.g_check_polynomial T.F_check_polynomial.kp (b_check_polynomial T) .nil pass0 (pa_cons (pv 0) pa_nil)))
  (pss_cons (ps_expr (pe_call (ok_check_fraction T) (hr.mono (by decide)) rfl T.g_check_fraction T.F_check_fraction.kp (b_check_fraction T) .nil pass0 (pa_cons (pv 1) pa_nil)))
  (pss_one (ps_ret (pe_call (ok_fraction_value T) (hr.mono (by decide)) rfl T.g_fraction_value T.F_fraction_value.kp (b_fraction_value T) .nil pass0 (pa_cons (pv 0) (pa_cons (pv 1) pa_nil))))))), pure_value_at K vs H Q E h⟩
/-! ### common_divisor -/

def pre_common_divisor : List PyData → Prop := fun ds => ∃ (f g : List Int) (h : Nat), ds = [rowD f, rowD g] ∧ (DbK f g h ∨ One f g ∨ One g f)
def post_common_divisor : List PyData → PyData → Prop := fun ds d => ∃ f g : List Int, ds = [rowD f, rowD g] ∧ ((f ≠ [] ∧ g ≠ [] ∧ ∃ (G : List Int) (B : Nat), IsG (rdc f) (rdc g) G B ∧ d = rowD G) ∨ (g = [] ∧ d = rowD (rdc f)) ∨ (f = [] ∧ g ≠ [] ∧ d = rowD (rdc g)))
abbrev sp_common_divisor (K : PySem.W.Frag) : Sp := SpP K pre_common_divisor post_common_divisor
theorem len_common_divisor (K : PySem.W.Frag) (vs : List V) (H : Hp) (Q : VK) (E : XK) (h : sp_common_divisor K vs H Q E) : vs.length = p_common_divisor.length := len_P (n := 2) h fun ds hp => by
  obtain ⟨f, g, h, e, X⟩ := hp
  rw [e]; rfl
def t_common_divisor (K : PySem.W.Frag) : TS :=
  (tSeq (tDrop (tCall (sp_check_polynomial K) [] E0 (tCons (tVar 0) tNil)))
  (tSeq (tDrop (tCall (sp_check_polynomial K) [] E0 (tCons (tVar 1) tNil)))
  (tSeq (tIfS (tAnd (tNot (tTru K (tVar 0))) (tNot (tTru K (tVar 1)))) tNever tNext)
  (tRet (tCall (sp_divisor_of_both K) [] E0 (tCons (tVar 0) (tCons (tVar 1) tNil)))))))
theorem pure_common_divisor (K : PySem.W.Frag) (vs : List V) (H : Hp) (Q : VK) (E : XK) (h : sp_common_divisor K vs H Q E) : t_common_divisor K { nx := fun _ H' => Q .non H', rt := Q } (L2.start N_common_divisor vs) H := body_P h fun B ds hW hp => by
  obtain ⟨f, g, h, e, X⟩ := hp
  subst e
  unfold t_common_divisor

  have tru : ∀ {u : List Int}, u ≠ [] → truD (rowD u) = true := fun {u} hu => by
    cases u with
    | nil => exact (hu rfl).elim
    | cons a r => rfl
  have facts : f.length ≤ 400 ∧ g.length ≤ 400 ∧ f.getLast? ≠ some 0 ∧ g.getLast? ≠ some 0 ∧ (f ≠ [] ∨ g ≠ []) := by
    rcases X with X | ⟨rfl, nf, tf, lf, cf⟩ | ⟨rfl, ng, tg, lg, cg⟩
    · have := X.lf
      have := X.lg
      exact ⟨by omega, by omega, X.tf, X.tg, .inl X.nf⟩
    · exact ⟨by omega, by simp, tf, by simp, .inl nf⟩
    · exact ⟨by simp, by omega, by simp, tg, .inr ng⟩
  obtain ⟨l1, l2, t1, t2, nn⟩ := facts
  refine st_seq (st_drop (ev_callP (ea_cons (ev_var rfl (ea_nil ⟨⟨f, rfl, l1, t1⟩, fun d ed => ?_⟩)))))
  refine st_seq (st_drop (ev_callP (ea_cons (ev_var rfl (ea_nil ⟨⟨g, rfl, l2, t2⟩, fun d ed => ?_⟩)))))
  have go : StP K B [] [] [.d (rowD f), .d (rowD g)] (tRet (tCall (sp_divisor_of_both K) [] E0 (tCons (tVar 0) (tCons (tVar 1) tNil)))) { nx := fun _ _ => post_common_divisor [rowD f, rowD g] .none, rt := post_common_divisor [rowD f, rowD g] } :=
    st_ret (ev_callP (ea_cons (ev_var rfl (ea_cons (ev_var rfl (ea_nil ⟨⟨f, g, h, rfl, X⟩, fun d hd => hd⟩))))))
  by_cases fn : f = []
  · subst fn
    have gn : truD (rowD g) = true := tru (nn.resolve_left fun z => z rfl)
    refine st_seq (st_if (et_and (et_not (et_tru (ev_var rfl ⟨trivial, ⟨fun _ => ?_, fun z => nomatch z⟩⟩)))))
    exact et_not (et_tru (ev_var rfl ⟨trivial, ⟨(fun z => by rw [gn] at z; cases z), fun _ => st_next go⟩⟩))
  · have ft : truD (rowD f) = true := tru fn
    exact st_seq (st_if (et_and (et_not (et_tru (ev_var rfl ⟨trivial, ⟨(fun z => by rw [ft] at z; cases z), fun _ => ⟨(fun z => nomatch z), fun _ => st_next go⟩⟩⟩)))))
theorem ok_common_divisor (T : Tx K mg) : FnOk P w K mg base CX0 6 T.a_common_divisor T.d_common_divisor p_common_divisor (sp_common_divisor K) := by
  refine T.F_common_divisor.ok sc_common_divisor (fun vs H Q E h => len_common_divisor K vs H Q E h) (fun cdv A outer s H vs Q E hr h => ?_)
  exact ⟨t_common_divisor K, (pss_cons (ps_expr (pe_call (ok_check_polynomial T) (hr.mono (by decide)) rfl T.g_check_polynomial T.F_check_polynomial.kp (b_check_polynomial T) .nil pass0 (pa_cons (pv 0) pa_nil)))
  (pss_cons (ps_expr (pe_call (ok_check_polynomial T) (hr.mono (by decide)) rfl T.g_check_polynomial T.F_check_polynomial.kp (b_check_polynomial T) .nil pass0 (pa_cons (pv 1) pa_nil)))
  (pss_cons (ps_if (PW.pt (pw_and (pt_not (pt_truth (pv 0) (by intro _; rfl))) (pw_and1 (pt_not (pt_truth (pv 1) (by intro _; rfl)))))) (pss_one ps_never) pss_nil)
  (pss_one (ps_ret (pe_call (ok_divisor_of_both T) (hr.mono (by decide)) rfl T.g_divisor_of_both T.F_divisor_of_both.kp (b_divisor_of_both T) .nil pass0 (pa_cons (pv 0) (pa_cons (pv 1) pa_nil)))))))), pure_common_divisor K vs H Q E h⟩
/-! ### _law_well -/
def sp__law_well (K : PySem.W.Frag) : Sp := fun vs H Q _ => ∃ (a : Addr) (ns : List Int) (n : Nat), vs = [.ref a, .int (n : Int)] ∧ SqL K H a (ns.map V.int) ∧ ns.length ≤ 63 ∧ n ≤ 100 ∧ ∀ p H', Same H H' → H p = none → WellAt H' p → Q (.ref p) H'
theorem len__law_well (K : PySem.W.Frag) (vs : List V) (H : Hp) (Q : VK) (E : XK) (h : sp__law_well K vs H Q E) : vs.length = p__law_well.length := by
  obtain ⟨a, ns, n, rfl, _⟩ := h
  rfl
theorem cutV_ints (ns : List Int) (lo hi : Option Int) : ∃ ms : List Int, cutV (ns.map V.int) lo hi = ms.map V.int ∧ ms.length ≤ ns.length := by
  refine ⟨(ns.drop (HT.sIx ns.length 0 lo)).take (HT.sIx ns.length ns.length hi - HT.sIx ns.length 0 lo), ?_, ?_⟩
  · unfold L2.cutV
    rw [List.length_map, List.map_take, List.map_drop]
  · rw [List.length_take, List.length_drop]
    omega
def t__law_well (K : PySem.W.Frag) : TS :=
  (tSeq (tAsg (tIf (tTest (tOp (rI0 fun i j => .bl (decide (i < j))) (tVar 1) (tCB (rLenQ K) (tCons (tVar 0) tNil)))) (tCB rIntQ (tCons (tOp (rIx K) (tVar 0) (tVar 1)) tNil)) (tOp (rAddA K) (tOp (rAddA K) (tOp (rMulA K) (tC (.int 6133)) (tVar 1)) (tC (.int 941))) (tOp rModA (tCB rIntQ (tCons (tCB (rSum K) (tCons (tSl (rSlX2 K) (tVar 0) tNoPart (tPart (tC (.int 3)))) tNil)) tNil)) (tC (.int 1000211))))) (gName 2))
  (tSeq (tAsg (tOp (rAddA K) (tC (.int 71993)) (tOp (rMulA K) (tC (.int 2213)) (tVar 1))) (gName 3))
  (tSeq (tFor (iList K (tOp (rAddA K) (tSl (rSlX2 K) (tVar 0) tNoPart (tPart (tC (.int 6)))) (tLst (tCons (tVar 2) tNil)))) (gName 4) (tAsg (tOp rModA (tCB rIntQ (tCons (tOp (rAddA K) (tOp (rAddA K) (tOp (rMulA K) (tVar 3) (tC (.int 39373))) (tOp rModA (tCB rIntQ (tCons (tVar 4) tNil)) (tC (.int 2147483549)))) (tC (.int 23))) tNil)) (tC (.int 2147483549))) (gName 3)))
  (tRet (tLst (tCons (tIf (tOr (tTest (tOp (rI0 fun i j => .bl (decide (i < j))) (tVar 2) (tC (.int 0)))) (tTest (tOp (rI0 fun i j => .bl (decide (j ≤ i))) (tVar 2) (tOp (rI CPow fun i j => .int (i ^ j.toNat)) (tC (.int 10)) (tC (.int 18)))))) (tCB rAbsQ (tCons (tVar 2) tNil)) (tC (.int 0))) (tCons (tVar 3) (tCons (tC (.int 0)) tNil))))))))
theorem pure__law_well (K : PySem.W.Frag) (vs : List V) (H : Hp) (Q : VK) (E : XK) (h : sp__law_well K vs H Q E) : t__law_well K { nx := fun _ H' => Q .non H', rt := Q } (L2.start N__law_well vs) H := by
  obtain ⟨a, ns, n, rfl, hS, hlen, hn, q⟩ := h
  unfold t__law_well
  have own : ∀ Q : VK, (∀ (o : Int) H1, Same H H1 → Q (.int o) H1) → (tIf (tTest (tOp (rI0 fun i j => .bl (decide (i < j))) (tVar 1) (tCB (rLenQ K) (tCons (tVar 0) tNil)))) (tCB rIntQ (tCons (tOp (rIx K) (tVar 0) (tVar 1)) tNil))
      (tOp (rAddA K) (tOp (rAddA K) (tOp (rMulA K) (tC (.int 6133)) (tVar 1)) (tC (.int 941))) (tOp rModA (tCB rIntQ (tCons (tCB (rSum K) (tCons (tSl (rSlX2 K) (tVar 0) tNoPart (tPart (tC (.int 3)))) tNil)) tNil)) (tC (.int 1000211))))) (L2.start N__law_well [.ref a, .int (n : Int)]) H Q := fun Q q => by
    refine ⟨_, rfl, _, rfl, a, _, rfl, .inl hS, _, _, rfl, rfl, _, rfl, ?_⟩
    refine ite2 (fun hb => ?_) (fun hb => ?_)
    · have hb' : n < ns.length := by
        have := of_decide_eq_true hb
        rw [List.length_map] at this
        omega
      exact ⟨_, rfl, _, rfl, .inl ⟨a, _, (n : Int), .int ns[n], rfl, rfl, hS, atI_nat (by rw [List.getElem?_map, List.getElem?_eq_getElem hb']; rfl), .inl ⟨_, rfl, q _ H (Same.refl H)⟩⟩⟩
    · obtain ⟨ms, em, hm⟩ := cutV_ints ns none (some 3)
      refine ⟨_, rfl, .inl ⟨_, _, rfl, rfl, .inl ⟨by decide, by decide⟩, .inl ⟨_, _, rfl, rfl, ?_⟩⟩⟩
      refine ⟨_, rfl, 3, rfl, .inr ⟨a, _, rfl, hS, fun p hp => ?_⟩⟩
      refine ⟨p, ms, rfl, .inl (.inl (by rw [upd_same, em])), .inl ⟨_, rfl, .inl ⟨_, _, rfl, rfl, (by show (0 : Int) < 1000211; decide), .inl ⟨_, _, rfl, rfl, q _ _ (same_upd hp)⟩⟩⟩⟩
  refine own _ fun o H1 s1 => ?_
  refine ⟨_, rfl, .inl ⟨_, _, rfl, rfl, .inl ⟨by decide, by decide⟩, .inl ⟨_, _, rfl, rfl, ?_⟩⟩⟩
  obtain ⟨ms, em, hm⟩ := cutV_ints ns none (some 6)
  refine ⟨_, rfl, 6, rfl, .inr ⟨a, _, rfl, s1.seq hS, fun p hp => ?_⟩⟩
  rw [em]
  have s2 : Same H1 (upd H1 p (.lst (ms.map V.int))) := same_upd hp
  refine ⟨_, rfl, (by show 1 ≤ sizeLine; decide), fun p2 hp2 => ?_⟩
  have s3 : Same (upd H1 p (.lst (ms.map V.int))) (upd (upd H1 p (.lst (ms.map V.int))) p2 (.lst [.int o])) := same_upd hp2
  refine .inr (.inr ⟨p, p2, ms.map V.int, [.int o], rfl, rfl, s3 _ _ upd_same, upd_same, (by rw [List.length_map]; show ms.length + 1 ≤ sizeLine; exact sz_ok (by omega)), fun p3 hp3 => ?_⟩)
  have s4 : Same (upd (upd H1 p (.lst (ms.map V.int))) p2 (.lst [.int o])) (upd (upd (upd H1 p (.lst (ms.map V.int))) p2 (.lst [.int o])) p3 (.lst (ms.map V.int ++ [.int o]))) := same_upd hp3
  generalize hH4 : (upd (upd (upd H1 p (.lst (ms.map V.int))) p2 (.lst [.int o])) p3 (.lst (ms.map V.int ++ [.int o]))) = H4 at s4 ⊢
  have s14 : Same H H4 := ((s1.trans s2).trans s3).trans s4
  have e4 : H4 p3 = some (.lst ((ms ++ [o]).map V.int)) := by
    rw [← hH4, upd_same, List.map_append]
    rfl
  refine ⟨p3, rfl, ⟨_, .inl (.inl e4)⟩, for_list (xs := (ms ++ [o]).map V.int) (fun i σ H' => ∃ (m : Int) (v : Option V), σ = [some (.ref a), some (.int (n : Int)), some (.int o), some (.int m), v] ∧ 0 ≤ m ∧ m < 2147483549 ∧ Same H4 H')
    ⟨71993 + 2213 * (n : Int), none, rfl, by omega, by omega, Same.refl _⟩ (fun i σ H' _ ⟨m, v, _, _, _, s5⟩ => s5.seq (.inl (.inl e4))) (fun i x σ H' hi ⟨m, v, e, h0, h1, s5⟩ => ?_) (fun σ H' ⟨m, v, e, h0, h1, s5⟩ => ?_)⟩
  · subst e
    obtain ⟨z, rfl⟩ : ∃ z, x = V.int z := by
      rw [List.getElem?_map] at hi
      cases e : (ms ++ [o])[i]? with
      | none => rw [e] at hi; cases hi
      | some z => rw [e] at hi; exact ⟨z, (Option.some.inj hi).symm⟩
    refine ⟨_, rfl, .inl ⟨_, _, rfl, rfl, .inl ⟨by omega, by omega⟩, _, rfl, .inl ⟨_, rfl, .inl ⟨_, _, rfl, rfl, (by show (0 : Int) < 2147483549; decide), .inl ⟨_, _, rfl, rfl, .inl ⟨_, _, rfl, rfl, .inl ⟨_, rfl, .inl ⟨_, _, rfl, rfl, (by show (0 : Int) < 2147483549; decide), ?_⟩⟩⟩⟩⟩⟩⟩⟩
    exact ⟨_, some (.int z), rfl, Int.emod_nonneg _ (by decide), Int.emod_lt_of_pos _ (by decide), s5⟩
  · subst e
    have fin : ∀ (z : Int) (H5 : Hp), 0 ≤ z → H5 = H' → (tCons (tVar 3) (tCons (tC (.int 0)) tNil)) [some (.ref a), some (.int (n : Int)), some (.int o), some (.int m), v] H5 (fun xs H2 => (V.int z :: xs).length ≤ sizeLine ∧ ∀ p, H2 p = none → Q (.ref p) (upd H2 p (.lst (V.int z :: xs)))) := fun z H5 hz e5 => by
      subst e5
      refine ⟨_, rfl, (by show 3 ≤ sizeLine; decide), fun p5 hp5 => q p5 _ ((s14.trans s5).trans (same_upd hp5)) ?_ ⟨z, m, 0, upd_same, hz, h0, Int.lt_trans h1 (by decide)⟩⟩
      exact (s14.trans s5).free hp5
    have hpow : (10 : Int) ^ (18 : Int).toNat = 1000000000000000000 := by decide
    refine ⟨_, rfl, _, _, rfl, rfl, _, rfl, ?_⟩
    refine ite2 (fun hb => ?_) (fun hb => ?_)
    · refine iteT ⟨_, rfl, _, rfl, fin _ _ ?_ rfl⟩
      split <;> omega
    · refine ⟨_, rfl, _, _, rfl, rfl, ⟨by decide, by decide, by decide⟩, _, _, rfl, rfl, _, rfl, ?_⟩
      refine ite2 (fun hb2 => ?_) (fun hb2 => ?_)
      · refine ⟨_, rfl, _, rfl, fin _ _ ?_ rfl⟩
        split <;> omega
      · exact fin 0 _ (Int.le_refl _) rfl
theorem ok__law_well (T : Tx K mg) : FnOk P w K mg base CX0 1 T.a__law_well T.d__law_well p__law_well (sp__law_well K) := by
  refine T.F__law_well.ok sc__law_well (fun vs H Q E h => len__law_well K vs H Q E h) (fun cdv A outer s H vs Q E hr h => ?_)
  exact ⟨t__law_well K, (pss_cons (ps_set (i := 2) sc__law_well.nd rfl (Or.inl rfl) (pe_ifExp (pt_cmpR op_lt (pv 1) (pe_callB call_len_seq (by rfl) T.n_len (by decide +kernel) (pa_cons (pv 0) pa_nil)) (nomark _)) (pe_callTy call_int1 (by rfl) T.n_int (by decide +kernel) (pa_cons (pe_ix ix_seq (pv 0) (pv 1) (fun _ _ => rfl)) pa_nil)) (pe_op op_addA (pe_op op_addA (pe_op op_mulA pe_int (pv 1)) pe_int) (pe_op op_modA (pe_callTy call_int1 (by rfl) T.n_int (by decide +kernel) (pa_cons (pe_callB (cr_sum rfl) (by rfl) T.n_sum (by decide +kernel) (pa_cons (pe_slice sl_any (pv 0) po_none (po_some pe_int)) pa_nil)) pa_nil)) pe_int))))
  (pss_cons (ps_set (i := 3) sc__law_well.nd rfl (Or.inl rfl) (pe_op op_addA pe_int (pe_op op_mulA pe_int (pv 1))))
  (pss_cons (ps_for PassesOwn.never rfl (pi_list (pe_op op_addA (pe_slice sl_any (pv 0) po_none (po_some pe_int)) (pe_lst (pa_cons (pv 2) pa_nil)))) (pg_name (i := 4) sc__law_well.nd rfl (Or.inl rfl)) (pss_one (ps_set (i := 3) sc__law_well.nd rfl (Or.inl rfl) (pe_op op_modA (pe_callTy call_int1 (by rfl) T.n_int (by decide +kernel) (pa_cons (pe_op op_addA (pe_op op_addA (pe_op op_mulA (pv 3) pe_int) (pe_op op_modA (pe_callTy call_int1 (by rfl) T.n_int (by decide +kernel) (pa_cons (pv 4) pa_nil)) pe_int)) pe_int) pa_nil)) pe_int))))
  (pss_one (ps_ret (pe_lst (pa_cons (pe_ifExp (PW.pt (pw_or (pt_cmpR op_lt (pv 2) pe_int (nomark _)) (pw_or1 (pt_cmpR op_ge (pv 2) (pe_op op_pow pe_int pe_int) (nomark _))))) (pe_callB call_abs (by rfl) T.n_abs (by decide +kernel) (pa_cons (pv 2) pa_nil)) pe_int) (pa_cons (pv 3) (pa_cons pe_int pa_nil))))))))), pure__law_well K vs H Q E h⟩
/-! ### _law_pull -/

def pre__law_pull : List PyData → Prop := fun ds => ∃ m : Int, ds = [.int m] ∧ 0 < m ∧ m < 1000000
def post__law_pull : List PyData → PyData → Prop := fun ds d => ∃ m z : Int, ds = [.int m] ∧ d = .int z ∧ 0 ≤ z ∧ z < m
abbrev sp__law_pull (K : PySem.W.Frag) : Sp := SpW K pre__law_pull post__law_pull
theorem len__law_pull (K : PySem.W.Frag) (vs : List V) (H : Hp) (Q : VK) (E : XK) (h : sp__law_pull K vs H Q E) : vs.length = p__law_pull.length := len_W (n := 1) h fun ds hp => by
  obtain ⟨m, e, hm0, hm1⟩ := hp
  rw [e]; rfl
def t__law_pull (K : PySem.W.Frag) : TS :=
  (tSeq (tIfS (tTest (tOp (rI0 fun i j => .bl (decide (j < i))) (tOp (rIx K) (tVar 0) (tC (.int 0))) (tC (.int 0)))) (tSeq (tAsg (tCB rDivmodQ (tCons (tOp (rIx K) (tVar 0) (tC (.int 0))) (tCons (tVar 1) tNil))) (gTup K 2 (gCons (gSub (tVar 0) (tC (.int 0)) rSetL) (gCons (gName 2) gNil))))
  (tRet (tVar 2))) tNext)
  (tSeq (tAsg (tOp (rAddA K) (tOp (rIx K) (tVar 0) (tC (.int 2))) (tC (.int 1))) (gSub (tVar 0) (tC (.int 2)) rSetL))
  (tSeq (tAsg (tOp (rAddA K) (tC (.int 31013)) (tOp (rMulA K) (tC (.int 6)) (tCB rIntQ (tCons (tOp (rIx K) (tVar 0) (tC (.int 2))) tNil)))) (gName 3))
  (tSeq (tAsg (tOp rModA (tCB rIntQ (tCons (tOp (rAddA K) (tOp (rAddA K) (tOp (rMulA K) (tOp (rIx K) (tVar 0) (tC (.int 1))) (tVar 3)) (tOp (rMulA K) (tC (.int 60077)) (tOp (rIx K) (tVar 0) (tC (.int 2))))) (tC (.int 31))) tNil)) (tC (.int 2147483549))) (gSub (tVar 0) (tC (.int 1)) rSetL))
  (tRet (tOp rModA (tCB rIntQ (tCons (tOp rFdA (tOp (rIx K) (tVar 0) (tC (.int 1))) (tC (.int 47))) tNil)) (tVar 1)))))))
theorem pure__law_pull (K : PySem.W.Frag) (vs : List V) (H : Hp) (Q : VK) (E : XK) (h : sp__law_pull K vs H Q E) : t__law_pull K { nx := fun _ H' => Q .non H', rt := Q } (L2.start N__law_pull vs) H := body_W h (by decide) fun B w ds hp => by
  obtain ⟨m, e, hm0, hm1⟩ := hp
  subst e
  unfold t__law_pull
  refine st_seq (st_if (et_test (ev_op ?_)))
  refine ev_well rfl (ev_int ⟨0, rfl, .inl rfl, fun n hn _ => ?_⟩)
  refine ev_int (rok_b0 ⟨_, rfl, fun hb => ?_, fun hb => ?_⟩)
  · refine st_seq (st_dmWell rfl ?_)
    refine ea_cons (ev_well rfl (ev_int ⟨0, rfl, .inl rfl, fun n hn _ => ea_cons (ev_var rfl (ea_nil ⟨n, m, rfl, hn rfl, hm0, by omega, ?_⟩))⟩))
    refine st_ret (ev_var rfl ⟨m, _, rfl, rfl, Int.emod_nonneg _ (by omega), Int.emod_lt_of_pos _ hm0⟩)
  · refine st_next (st_seq (st_setWell rfl ?_))
    refine ev_op (ev_well rfl (ev_int ⟨2, rfl, .inr (.inr rfl), fun n _ _ => ?_⟩))
    refine ev_int (ro_add ?_)
    refine ev_int ⟨_, 2, rfl, rfl, .inr (.inr rfl), by omega, by omega, ?_⟩
    refine st_seq (st_asg ?_)
    refine ev_op (ev_int (ev_op (ev_int (ev_cb (ea_cons (ev_well rfl (ev_int ⟨2, rfl, .inr (.inr rfl), fun n _ _ => ?_⟩)))))))
    refine ea_nil (co_int (ro_mul (.inl (by decide)) (ro_add ?_)))
    refine st_seq (st_setWell rfl ?_)
    refine ev_op (ev_cb (ea_cons (ev_op (ev_op (ev_op (ev_well rfl (ev_int ⟨1, rfl, .inr (.inl rfl), fun b _ hb => ?_⟩)))))))
    refine ev_var rfl (ro_mul (.inl ?_) ?_)
    · have := hb rfl
      omega
    refine ev_op (ev_int (ev_well rfl (ev_int ⟨2, rfl, .inr (.inr rfl), fun c _ _ => ?_⟩)))
    refine ro_mul (.inl (by decide)) (ro_add ?_)
    refine ev_int (ro_add (ea_nil (co_int (ev_int (ro_mod (by decide) ?_)))))
    refine ev_int ⟨_, 1, rfl, rfl, .inr (.inl rfl), by omega, fun _ => ⟨Int.emod_nonneg _ (by decide), Int.lt_trans (Int.emod_lt_of_pos _ (by decide)) (by decide)⟩, ?_⟩
    refine st_ret (ev_op (ev_cb (ea_cons (ev_op (ev_well rfl (ev_int ⟨1, rfl, .inr (.inl rfl), fun b _ hb => ?_⟩))))))
    refine ev_int (ro_fd (by decide) (ea_nil (co_int (ev_var rfl (ro_mod hm0 ?_)))))
    exact ⟨m, _, rfl, rfl, Int.emod_nonneg _ (by omega), Int.emod_lt_of_pos _ hm0⟩
theorem ok__law_pull (T : Tx K mg) : FnOk P w K mg base CX0 1 T.a__law_pull T.d__law_pull p__law_pull (sp__law_pull K) := by
  refine T.F__law_pull.ok sc__law_pull (fun vs H Q E h => len__law_pull K vs H Q E h) (fun cdv A outer s H vs Q E hr h => ?_)
  exact ⟨t__law_pull K, (pss_cons (ps_if (pt_cmpR op_gt (pe_ix ix_seq (pv 0) pe_int (fun _ _ => rfl)) pe_int (nomark _)) (pss_cons (ps_asg (pe_callB call_divmodW (by rfl) T.n_divmod (by decide +kernel) (pa_cons (pe_ix ix_seq (pv 0) pe_int (fun _ _ => rfl)) (pa_cons (pv 1) pa_nil))) (pg_tup (by rfl) (pgs_cons (pg_sub (pv 0) pe_int set_list) (pgs_cons (pg_name (i := 2) sc__law_pull.nd rfl (Or.inl rfl)) pgs_nil))))
  (pss_one (ps_ret (pv 2)))) pss_nil)
  (pss_cons (ps_asg (pe_op op_addA (pe_ix ix_seq (pv 0) pe_int (fun _ _ => rfl)) pe_int) (pg_sub (pv 0) pe_int set_list))
  (pss_cons (ps_set (i := 3) sc__law_pull.nd rfl (Or.inl rfl) (pe_op op_addA pe_int (pe_op op_mulA pe_int (pe_callTy call_int1 (by rfl) T.n_int (by decide +kernel) (pa_cons (pe_ix ix_seq (pv 0) pe_int (fun _ _ => rfl)) pa_nil)))))
  (pss_cons (ps_asg (pe_op op_modA (pe_callTy call_int1 (by rfl) T.n_int (by decide +kernel) (pa_cons (pe_op op_addA (pe_op op_addA (pe_op op_mulA (pe_ix ix_seq (pv 0) pe_int (fun _ _ => rfl)) (pv 3)) (pe_op op_mulA pe_int (pe_ix ix_seq (pv 0) pe_int (fun _ _ => rfl)))) pe_int) pa_nil)) pe_int) (pg_sub (pv 0) pe_int set_list))
  (pss_one (ps_ret (pe_op op_modA (pe_callTy call_int1 (by rfl) T.n_int (by decide +kernel) (pa_cons (pe_op op_fdA (pe_ix ix_seq (pv 0) pe_int (fun _ _ => rfl)) pe_int) pa_nil)) (pv 1)))))))), pure__law_pull K vs H Q E h⟩
/-! ### _law_one -/

def pre__law_one : List PyData → Prop := fun ds => ∃ xs : List PyData, ds = [.list xs] ∧ 0 < xs.length ∧ xs.length < 1000
def post__law_one : List PyData → PyData → Prop := fun ds d => ∃ xs : List PyData, ds = [.list xs] ∧ d ∈ xs
abbrev sp__law_one (K : PySem.W.Frag) : Sp := SpW K pre__law_one post__law_one
theorem len__law_one (K : PySem.W.Frag) (vs : List V) (H : Hp) (Q : VK) (E : XK) (h : sp__law_one K vs H Q E) : vs.length = p__law_one.length := len_W (n := 1) h fun ds hp => by
  obtain ⟨xs, e, h0, h1⟩ := hp
  rw [e]; rfl
def t__law_one (K : PySem.W.Frag) : TS :=
  (tRet (tOp (rIx K) (tVar 1) (tCall (sp__law_pull K) [] E0 (tCons (tVar 0) (tCons (tCB (rLenQ K) (tCons (tVar 1) tNil)) tNil)))))
theorem pure__law_one (K : PySem.W.Frag) (vs : List V) (H : Hp) (Q : VK) (E : XK) (h : sp__law_one K vs H Q E) : t__law_one K { nx := fun _ H' => Q .non H', rt := Q } (L2.start N__law_one vs) H := body_W h (by decide) fun B w ds hp => by
  obtain ⟨xs, e, h0, h1⟩ := hp
  subst e
  unfold t__law_one
  refine st_ret (ev_op (ev_var rfl (ev_callW rfl ?_)))
  walk_at "dd"
  refine ⟨⟨_, rfl, by omega, by omega⟩, fun d ⟨m, z, em, ed, hz0, hz1⟩ => ?_⟩
  cases em
  subst ed
  obtain ⟨j, rfl⟩ := Int.eq_ofNat_of_zero_le hz0
  have hj : j < xs.length := by omega
  exact rok_ixsL (d := xs[j]) (atI_nat (List.getElem?_eq_getElem hj)) ⟨xs, rfl, List.getElem_mem hj⟩
theorem ok__law_one (T : Tx K mg) : FnOk P w K mg base CX0 2 T.a__law_one T.d__law_one p__law_one (sp__law_one K) := by
  refine T.F__law_one.ok sc__law_one (fun vs H Q E h => len__law_one K vs H Q E h) (fun cdv A outer s H vs Q E hr h => ?_)
  exact ⟨t__law_one K, (pss_one (ps_ret (pe_ix ix_seq (pv 1) (pe_call (ok__law_pull T) (hr.mono (by decide)) rfl T.g__law_pull T.F__law_pull.kp (b__law_pull T) .nil pass0 (pa_cons (pv 0) (pa_cons (pe_callB call_len_seq (by rfl) T.n_len (by decide +kernel) (pa_cons (pv 1) pa_nil)) pa_nil))) (fun _ _ => rfl)))), pure__law_one K vs H Q E h⟩
/-! ### _law_gcd -/

def pre__law_gcd : List PyData → Prop := fun ds => ∃ a b : Int, ds = [.int a, .int b]
def post__law_gcd : List PyData → PyData → Prop := fun ds d => ∃ a b : Int, ds = [.int a, .int b] ∧ d = .int ((Nat.gcd a.natAbs b.natAbs : Nat) : Int)
abbrev sp__law_gcd (K : PySem.W.Frag) : Sp := SpP K pre__law_gcd post__law_gcd
theorem len__law_gcd (K : PySem.W.Frag) (vs : List V) (H : Hp) (Q : VK) (E : XK) (h : sp__law_gcd K vs H Q E) : vs.length = p__law_gcd.length := len_P (n := 2) h fun ds hp => by
  obtain ⟨a, b, e⟩ := hp
  rw [e]; rfl
def t__law_gcd (K : PySem.W.Frag) : TS :=
  (tSeq (tPar 0 1 (tCons (tCB rAbsQ (tCons (tVar 0) tNil)) (tCons (tCB rAbsQ (tCons (tVar 1) tNil)) tNil)))
  (tSeq (tWhile (tTest (tOp (rI0 fun i j => .bl (decide (j < i))) (tVar 1) (tC (.int 0)))) (tPar 0 1 (tCons (tVar 1) (tCons (tOp rModA (tCB rIntQ (tCons (tVar 0) tNil)) (tVar 1)) tNil))))
  (tRet (tVar 0))))
theorem pure__law_gcd (K : PySem.W.Frag) (vs : List V) (H : Hp) (Q : VK) (E : XK) (h : sp__law_gcd K vs H Q E) : t__law_gcd K { nx := fun _ H' => Q .non H', rt := Q } (L2.start N__law_gcd vs) H := body_P h fun B ds hW hp => by
  obtain ⟨a, b, e⟩ := hp
  subst e
  unfold t__law_gcd
  refine st_seq (st_par ?_)
  walk_at "dd"
  refine ⟨_, _, rfl, ?_⟩
  refine st_seq (st_while (fun m L2 Γ2 => ∃ x y : Int, L2 = [] ∧ Γ2 = [.d (.int x), .d (.int y)] ∧ 0 ≤ x ∧ 0 ≤ y ∧ m = y.toNat ∧ Nat.gcd x.natAbs y.natAbs = Nat.gcd a.natAbs b.natAbs) b.natAbs ⟨_, _, rfl, rfl, ?_, ?_, ?_, ?_⟩ ?_)
  · split <;> omega
  · split <;> omega
  · split <;> omega
  · congr 1 <;> (split <;> omega)
  · rintro m L2 Γ2 ⟨x, y, rfl, rfl, hx, hy, rfl, hg⟩
    walk_at "dd"
    refine ⟨fun hb => ?_, fun hb => ?_⟩
    · have hy' : 0 < y := of_decide_eq_true hb
      refine st_par ?_
      walk_at "dd"
      refine ro_mod hy' (ea_nil ⟨_, _, rfl, (x % y).toNat, ?_, y, x % y, rfl, rfl, hy, Int.emod_nonneg _ (by omega), rfl, ?_⟩)
      · have h1 := Int.emod_lt_of_pos x hy'
        have h2 := Int.emod_nonneg x (show y ≠ 0 by omega)
        omega
      · rw [← hg]
        have e1 : (x % y).natAbs = x.natAbs % y.natAbs := by
          obtain ⟨p, rfl⟩ := Int.eq_ofNat_of_zero_le hx
          obtain ⟨q, rfl⟩ := Int.eq_ofNat_of_zero_le hy
          rw [← Int.natCast_emod]
          simp only [Int.natAbs_natCast]
        rw [e1, Nat.gcd_comm x.natAbs y.natAbs, Nat.gcd_comm y.natAbs (x.natAbs % y.natAbs), ← Nat.gcd_rec]
    · have hy' : y = 0 := by
        have := of_decide_eq_false hb
        omega
      subst hy'
      refine st_ret (ev_var rfl ⟨a, b, rfl, ?_⟩)
      rw [← hg]
      show PyData.int x = PyData.int ((Nat.gcd x.natAbs 0 : Nat) : Int)
      rw [Nat.gcd_zero_right]
      congr 1
      omega
theorem ok__law_gcd (T : Tx K mg) : FnOk P w K mg base CX0 1 T.a__law_gcd T.d__law_gcd p__law_gcd (sp__law_gcd K) := by
  refine T.F__law_gcd.ok sc__law_gcd (fun vs H Q E h => len__law_gcd K vs H Q E h) (fun cdv A outer s H vs Q E hr h => ?_)
  exact ⟨t__law_gcd K, (pss_cons (ps_par (by rfl) sc__law_gcd.nd rfl rfl (by decide) rfl rfl (pa_cons (pe_callB call_abs (by rfl) T.n_abs (by decide +kernel) (pa_cons (pv 0) pa_nil)) (pa_cons (pe_callB call_abs (by rfl) T.n_abs (by decide +kernel) (pa_cons (pv 1) pa_nil)) pa_nil)) (by rfl))
  (pss_cons (ps_while PassesOwn.never (pt_cmpR op_gt (pv 1) pe_int (nomark _)) (pss_one (ps_par (by rfl) sc__law_gcd.nd rfl rfl (by decide) rfl rfl (pa_cons (pv 1) (pa_cons (pe_op op_modA (pe_callTy call_int1 (by rfl) T.n_int (by decide +kernel) (pa_cons (pv 0) pa_nil)) (pv 1)) pa_nil)) (by rfl))))
  (pss_one (ps_ret (pv 0))))), pure__law_gcd K vs H Q E h⟩
/-! ### _law_cut -/

def pre__law_cut : List PyData → Prop := fun ds => ∃ n m : Int, ds = [.int n, .int m] ∧ m ≠ 0 ∧ m.natAbs < 2 ^ 9000
def post__law_cut : List PyData → PyData → Prop := fun ds d => ∃ n m : Int, ds = [.int n, .int m] ∧ ∃ p q g : Int, d = .tuple [.int p, .int q] ∧ 0 < g ∧ 0 < q ∧ Nat.gcd p.natAbs q.natAbs = 1 ∧ ((n = p * g ∧ m = q * g) ∨ (m < 0 ∧ n = - (p * g) ∧ m = - (q * g)))
abbrev sp__law_cut (K : PySem.W.Frag) : Sp := SpP K pre__law_cut post__law_cut
theorem len__law_cut (K : PySem.W.Frag) (vs : List V) (H : Hp) (Q : VK) (E : XK) (h : sp__law_cut K vs H Q E) : vs.length = p__law_cut.length := len_P (n := 2) h fun ds hp => by
  obtain ⟨n, m, e, hm, hz⟩ := hp
  rw [e]; rfl
def t__law_cut (K : PySem.W.Frag) : TS :=
  (tSeq (tIfS (tTest (tOp (rI0 fun i j => .bl (decide (i < j))) (tVar 1) (tC (.int 0)))) (tPar 0 1 (tCons (tOp (rI0 fun i j => .int (i - j)) (tC (.int 0)) (tVar 0)) (tCons (tOp (rI0 fun i j => .int (i - j)) (tC (.int 0)) (tVar 1)) tNil))) tNext)
  (tSeq (tAsg (tCall (sp__law_gcd K) [] E0 (tCons (tVar 0) (tCons (tVar 1) tNil))) (gName 2))
  (tRet (tTup (tCons (tOp rFdA (tVar 0) (tVar 2)) (tCons (tOp rFdA (tVar 1) (tVar 2)) tNil))))))
theorem pure__law_cut (K : PySem.W.Frag) (vs : List V) (H : Hp) (Q : VK) (E : XK) (h : sp__law_cut K vs H Q E) : t__law_cut K { nx := fun _ H' => Q .non H', rt := Q } (L2.start N__law_cut vs) H := body_P h fun B ds hW hp => by
  obtain ⟨n, m, e, hm, hz⟩ := hp
  subst e
  unfold t__law_cut
  walk_at "dd"
  have main : ∀ (Γ : List Sl) (n' m' : Int), Γ[0]? = some (.d (.int n')) → Γ[1]? = some (.d (.int m')) → 2 < Γ.length → 0 < m' → m'.natAbs < 2 ^ 9000 → ((n = n' ∧ m = m') ∨ (m < 0 ∧ n = - n' ∧ m = - m')) → StP K B [] [] Γ
      (tSeq (tAsg (tCall (sp__law_gcd K) [] E0 (tCons (tVar 0) (tCons (tVar 1) tNil))) (gName 2)) (tRet (tTup (tCons (tOp rFdA (tVar 0) (tVar 2)) (tCons (tOp rFdA (tVar 1) (tVar 2)) tNil)))))
      { nx := fun _ _ => post__law_cut [.int n, .int m] .none, rt := post__law_cut [.int n, .int m] } := fun Γ n' m' h0 h1 hl hm' hz' hr => by
    refine st_seq (st_asg (ev_callP (ea_cons (ev_var h0 (ea_cons (ev_var h1 (ea_nil ⟨⟨_, _, rfl⟩, fun d ⟨a, b, eab, ed⟩ => ?_⟩)))))))
    cases eab
    subst ed
    have k0 : (Γ.set 2 (.d (.int ((Nat.gcd n'.natAbs m'.natAbs : Nat) : Int))))[0]? = some (.d (.int n')) := by rw [List.getElem?_set_ne (by decide)]; exact h0
    have k1 : (Γ.set 2 (.d (.int ((Nat.gcd n'.natAbs m'.natAbs : Nat) : Int))))[1]? = some (.d (.int m')) := by rw [List.getElem?_set_ne (by decide)]; exact h1
    have k2 : (Γ.set 2 (.d (.int ((Nat.gcd n'.natAbs m'.natAbs : Nat) : Int))))[2]? = some (.d (.int ((Nat.gcd n'.natAbs m'.natAbs : Nat) : Int))) := List.getElem?_set_self hl
    obtain ⟨g, hg⟩ : ∃ g : Nat, Nat.gcd n'.natAbs m'.natAbs = g := ⟨_, rfl⟩
    rw [hg] at k0 k1 k2 ⊢
    have hgp : 0 < g := by rw [← hg]; exact Nat.gcd_pos_of_pos_right _ (by omega)
    have hgm : g ≤ m'.natAbs := by rw [← hg]; exact Nat.gcd_le_right _ (by omega)
    have hgz : CDivW n' (g : Int) ∧ CDivW m' (g : Int) := by
      have : (g : Int).natAbs < 2 ^ 9000 := by
        rw [Int.natAbs_natCast]
        exact Nat.lt_of_le_of_lt hgm hz'
      exact ⟨wide_div (by omega) this (by decide) (Nat.le_refl _), wide_div (by omega) this (by decide) (Nat.le_refl _)⟩
    have d1 : (g : Int) ∣ n' := by
      rw [← hg]
      exact Int.ofNat_dvd_left.mpr (Nat.gcd_dvd_left _ _)
    have d2 : (g : Int) ∣ m' := by
      rw [← hg]
      exact Int.ofNat_dvd_left.mpr (Nat.gcd_dvd_right _ _)
    refine st_ret (ev_tup (ea_cons (ev_op (ev_var k0 (ev_var k2 (ro_fdW hgz.1 (ea_cons (ev_op (ev_var k1 (ev_var k2 (ro_fdW hgz.2 (ea_nil ⟨by simp, ?_⟩))))))))))))
    have e1 : n' / (g : Int) * g = n' := Int.ediv_mul_cancel d1
    have e2 : m' / (g : Int) * g = m' := Int.ediv_mul_cancel d2
    refine ⟨n, m, rfl, n' / g, m' / g, g, rfl, by omega, Int.ediv_pos_of_pos_of_dvd hm' (by omega) d2, ?_, ?_⟩
    · rw [Int.natAbs_ediv_of_dvd d1, Int.natAbs_ediv_of_dvd d2, Int.natAbs_natCast]
      rw [Nat.gcd_div (by rw [← hg]; exact Nat.gcd_dvd_left _ _) (by rw [← hg]; exact Nat.gcd_dvd_right _ _), hg]
      exact Nat.div_self hgp
    · rw [e1, e2]
      exact hr
  refine ⟨fun hb => ?_, fun hb => ?_⟩
  · have hb' : m < 0 := of_decide_eq_true hb
    refine st_par ?_
    refine ea_cons (ev_op (ev_int (ev_var rfl (rok_i0 (ea_cons (ev_op (ev_int (ev_var rfl (rok_i0 (ea_nil ⟨_, _, rfl, ?_⟩))))))))))
    exact main _ (0 - n) (0 - m) rfl rfl (by show (2 : Nat) < 3; decide) (by omega) (by omega) (.inr ⟨hb', by omega, by omega⟩)
  · have hb' : ¬ m < 0 := of_decide_eq_false hb
    refine st_next ?_
    exact main _ n m rfl rfl (by show (2 : Nat) < 3; decide) (by omega) hz (.inl ⟨rfl, rfl⟩)
theorem ok__law_cut (T : Tx K mg) : FnOk P w K mg base CX0 2 T.a__law_cut T.d__law_cut p__law_cut (sp__law_cut K) := by
  refine T.F__law_cut.ok sc__law_cut (fun vs H Q E h => len__law_cut K vs H Q E h) (fun cdv A outer s H vs Q E hr h => ?_)
  exact ⟨t__law_cut K, (pss_cons (ps_if (pt_cmpR op_lt (pv 1) pe_int (nomark _)) (pss_one (ps_par (by rfl) sc__law_cut.nd rfl rfl (by decide) rfl rfl (pa_cons (pe_op op_sub pe_int (pv 0)) (pa_cons (pe_op op_sub pe_int (pv 1)) pa_nil)) (by rfl))) pss_nil)
  (pss_cons (ps_set (i := 2) sc__law_cut.nd rfl (Or.inl rfl) (pe_call (ok__law_gcd T) (hr.mono (by decide)) rfl T.g__law_gcd T.F__law_gcd.kp (b__law_gcd T) .nil pass0 (pa_cons (pv 0) (pa_cons (pv 1) pa_nil))))
  (pss_one (ps_ret (pe_tup (pa_cons (pe_op op_fdA (pv 0) (pv 2)) (pa_cons (pe_op op_fdA (pv 1) (pv 2)) pa_nil))))))), pure__law_cut K vs H Q E h⟩
/-! ### _law_add -/
theorem cut_ok {n m : Int} {d : PyData} (hm : 0 < m) (h : post__law_cut [.int n, .int m] d) : ∃ p q : Int, d = frD (p, q) ∧ FOk (p, q) ∧ val (p, q) = (n : Rat) / (m : Rat) := by
  obtain ⟨n', m', e, p, q, g, ed, hg, hq, hc, hr⟩ := h
  simp only [List.cons.injEq, PyData.int.injEq, and_true] at e
  obtain ⟨rfl, rfl⟩ := e
  refine ⟨p, q, ed, ⟨hq, hc⟩, ?_⟩
  rcases hr with ⟨h1, h2⟩ | ⟨h1, _⟩
  · rw [val_eq hq hm]
    show p * m = n * q
    rw [h1, h2]
    grind
  · omega
def pre__law_add : List PyData → Prop := fun ds => ∃ x y : Fr, ds = [frD x, frD y] ∧ Sm x ∧ Sm y
def post__law_add : List PyData → PyData → Prop := fun ds d => ∃ x y r : Fr, ds = [frD x, frD y] ∧ d = frD r ∧ FOk r ∧ val r = val x + val y
abbrev sp__law_add (K : PySem.W.Frag) : Sp := SpP K pre__law_add post__law_add
theorem len__law_add (K : PySem.W.Frag) (vs : List V) (H : Hp) (Q : VK) (E : XK) (h : sp__law_add K vs H Q E) : vs.length = p__law_add.length := len_P (n := 2) h fun ds hp => by
  obtain ⟨x, y, e, hx, hy⟩ := hp
  rw [e]; rfl
def t__law_add (K : PySem.W.Frag) : TS :=
  (tRet (tCall (sp__law_cut K) [] E0 (tCons (tOp (rAddA K) (tOp (rMulA K) (tOp (rIx K) (tVar 0) (tC (.int 0))) (tOp (rIx K) (tVar 1) (tC (.int 1)))) (tOp (rMulA K) (tOp (rIx K) (tVar 1) (tC (.int 0))) (tOp (rIx K) (tVar 0) (tC (.int 1))))) (tCons (tOp (rMulA K) (tOp (rIx K) (tVar 0) (tC (.int 1))) (tOp (rIx K) (tVar 1) (tC (.int 1)))) tNil))))
theorem pure__law_add (K : PySem.W.Frag) (vs : List V) (H : Hp) (Q : VK) (E : XK) (h : sp__law_add K vs H Q E) : t__law_add K { nx := fun _ H' => Q .non H', rt := Q } (L2.start N__law_add vs) H := body_P h fun B ds hW hp => by
  obtain ⟨x, y, e, hx, hy⟩ := hp
  subst e
  unfold t__law_add
  obtain ⟨x1, x2, x3⟩ := hx
  obtain ⟨y1, y2, y3⟩ := hy
  refine st_ret (ev_callP ?_)
  walk_at "dd"
  refine ro_mulW (mulW_of x2 y3 (by decide)) ?_
  walk_at "dd"
  refine ro_mulW (mulW_of y2 x3 (by decide)) ?_
  walk_at "dd"
  refine ro_mulW (mulW_of x3 y3 (by decide)) ?_
  have hm := Int.mul_pos x1 y1
  refine ea_nil ⟨⟨_, _, rfl, by omega, pow_up (natAbs_mul_lt x3 y3) (by decide)⟩, fun d hd => ?_⟩
  obtain ⟨p, q, rfl, f, v⟩ := cut_ok hm hd
  refine ⟨x, y, (p, q), rfl, rfl, f, ?_⟩
  rw [v]
  have n1 := ratInt_ne (a := x.2) (by omega)
  have n2 := ratInt_ne (a := y.2) (by omega)
  unfold val
  rw [Rat.intCast_add, Rat.intCast_mul, Rat.intCast_mul, Rat.intCast_mul]
  grind
theorem ok__law_add (T : Tx K mg) : FnOk P w K mg base CX0 3 T.a__law_add T.d__law_add p__law_add (sp__law_add K) := by
  refine T.F__law_add.ok sc__law_add (fun vs H Q E h => len__law_add K vs H Q E h) (fun cdv A outer s H vs Q E hr h => ?_)
  exact ⟨t__law_add K, (pss_one (ps_ret (pe_call (ok__law_cut T) (hr.mono (by decide)) rfl T.g__law_cut T.F__law_cut.kp (b__law_cut T) .nil pass0 (pa_cons (pe_op op_addA (pe_op op_mulA (pe_ix ix_seq (pv 0) pe_int (fun _ _ => rfl)) (pe_ix ix_seq (pv 1) pe_int (fun _ _ => rfl))) (pe_op op_mulA (pe_ix ix_seq (pv 1) pe_int (fun _ _ => rfl)) (pe_ix ix_seq (pv 0) pe_int (fun _ _ => rfl)))) (pa_cons (pe_op op_mulA (pe_ix ix_seq (pv 0) pe_int (fun _ _ => rfl)) (pe_ix ix_seq (pv 1) pe_int (fun _ _ => rfl))) pa_nil))))), pure__law_add K vs H Q E h⟩
/-! ### _law_by -/

def pre__law_by : List PyData → Prop := fun ds => ∃ x y : Fr, ds = [frD x, frD y] ∧ Sm x ∧ Sm y
def post__law_by : List PyData → PyData → Prop := fun ds d => ∃ x y r : Fr, ds = [frD x, frD y] ∧ d = frD r ∧ FOk r ∧ val r = val x * val y
abbrev sp__law_by (K : PySem.W.Frag) : Sp := SpP K pre__law_by post__law_by
theorem len__law_by (K : PySem.W.Frag) (vs : List V) (H : Hp) (Q : VK) (E : XK) (h : sp__law_by K vs H Q E) : vs.length = p__law_by.length := len_P (n := 2) h fun ds hp => by
  obtain ⟨x, y, e, hx, hy⟩ := hp
  rw [e]; rfl
def t__law_by (K : PySem.W.Frag) : TS :=
  (tRet (tCall (sp__law_cut K) [] E0 (tCons (tOp (rMulA K) (tOp (rIx K) (tVar 0) (tC (.int 0))) (tOp (rIx K) (tVar 1) (tC (.int 0)))) (tCons (tOp (rMulA K) (tOp (rIx K) (tVar 0) (tC (.int 1))) (tOp (rIx K) (tVar 1) (tC (.int 1)))) tNil))))
theorem pure__law_by (K : PySem.W.Frag) (vs : List V) (H : Hp) (Q : VK) (E : XK) (h : sp__law_by K vs H Q E) : t__law_by K { nx := fun _ H' => Q .non H', rt := Q } (L2.start N__law_by vs) H := body_P h fun B ds hW hp => by
  obtain ⟨x, y, e, hx, hy⟩ := hp
  subst e
  unfold t__law_by
  obtain ⟨x1, x2, x3⟩ := hx
  obtain ⟨y1, y2, y3⟩ := hy
  refine st_ret (ev_callP ?_)
  walk_at "dd"
  refine ro_mulW (mulW_of x2 y2 (by decide)) ?_
  walk_at "dd"
  refine ro_mulW (mulW_of x3 y3 (by decide)) ?_
  have hm := Int.mul_pos x1 y1
  refine ea_nil ⟨⟨_, _, rfl, by omega, pow_up (natAbs_mul_lt x3 y3) (by decide)⟩, fun d hd => ?_⟩
  obtain ⟨p, q, rfl, f, v⟩ := cut_ok hm hd
  refine ⟨x, y, (p, q), rfl, rfl, f, ?_⟩
  rw [v]
  have n1 := ratInt_ne (a := x.2) (by omega)
  have n2 := ratInt_ne (a := y.2) (by omega)
  unfold val
  rw [Rat.intCast_mul, Rat.intCast_mul]
  grind
theorem ok__law_by (T : Tx K mg) : FnOk P w K mg base CX0 3 T.a__law_by T.d__law_by p__law_by (sp__law_by K) := by
  refine T.F__law_by.ok sc__law_by (fun vs H Q E h => len__law_by K vs H Q E h) (fun cdv A outer s H vs Q E hr h => ?_)
  exact ⟨t__law_by K, (pss_one (ps_ret (pe_call (ok__law_cut T) (hr.mono (by decide)) rfl T.g__law_cut T.F__law_cut.kp (b__law_cut T) .nil pass0 (pa_cons (pe_op op_mulA (pe_ix ix_seq (pv 0) pe_int (fun _ _ => rfl)) (pe_ix ix_seq (pv 1) pe_int (fun _ _ => rfl))) (pa_cons (pe_op op_mulA (pe_ix ix_seq (pv 0) pe_int (fun _ _ => rfl)) (pe_ix ix_seq (pv 1) pe_int (fun _ _ => rfl))) pa_nil))))), pure__law_by K vs H Q E h⟩
/-! ### _law_amount -/
def isAmt (d : PyData) : Prop := ∃ n m : Int, d = .tuple [.int n, .int m] ∧ 0 < n ∧ n ≤ 40 ∧ 0 < m ∧ m ≤ 7 ∧ Nat.gcd n.natAbs m.natAbs = 1
theorem Int.pos_of_mul_pos_left {p g : Int} (h : 0 < p * g) (hg : 0 < g) : 0 < p := by
  rcases Int.lt_or_le 0 p with h1 | h1
  · exact h1
  · exfalso
    have := Int.mul_nonpos_of_nonpos_of_nonneg h1 (Int.le_of_lt hg)
    omega
theorem Int.le_mul_of_one_le_right' {p g : Int} (hp : 0 ≤ p) (hg : 0 < g) : p ≤ p * g := by
  have := Int.mul_le_mul_of_nonneg_left (show (1 : Int) ≤ g by omega) hp
  omega
def pre__law_amount : List PyData → Prop := fun ds => True ∧ ds = []
def post__law_amount : List PyData → PyData → Prop := fun ds d => isAmt d
abbrev sp__law_amount (K : PySem.W.Frag) : Sp := SpW K pre__law_amount post__law_amount
theorem len__law_amount (K : PySem.W.Frag) (vs : List V) (H : Hp) (Q : VK) (E : XK) (h : sp__law_amount K vs H Q E) : vs.length = p__law_amount.length := len_W (n := 0) h fun ds hp => by
  obtain ⟨_, e⟩ := hp
  rw [e]; rfl
def t__law_amount (K : PySem.W.Frag) : TS :=
  (tSeq (tPar 1 2 (tCons (tCall (sp__law_one K) [] E0 (tCons (tVar 0) (tCons (tLst (tCons (tC (.int 1)) (tCons (tC (.int 2)) (tCons (tC (.int 3)) (tCons (tC (.int 4)) (tCons (tC (.int 4)) (tCons (tC (.int 9)) (tCons (tC (.int 40)) tNil)))))))) tNil))) (tCons (tCall (sp__law_one K) [] E0 (tCons (tVar 0) (tCons (tLst (tCons (tC (.int 1)) (tCons (tC (.int 1)) (tCons (tC (.int 1)) (tCons (tC (.int 2)) (tCons (tC (.int 3)) (tCons (tC (.int 7)) tNil))))))) tNil))) tNil)))
  (tRet (tCall (sp__law_cut K) [] E0 (tCons (tOp (rAddA K) (tC (.int 1)) (tCall (sp__law_pull K) [] E0 (tCons (tVar 0) (tCons (tVar 1) tNil)))) (tCons (tOp (rAddA K) (tC (.int 1)) (tCall (sp__law_pull K) [] E0 (tCons (tVar 0) (tCons (tVar 2) tNil)))) tNil)))))
theorem pure__law_amount (K : PySem.W.Frag) (vs : List V) (H : Hp) (Q : VK) (E : XK) (h : sp__law_amount K vs H Q E) : t__law_amount K { nx := fun _ H' => Q .non H', rt := Q } (L2.start N__law_amount vs) H := body_W h (by decide) fun B w ds hp => by
  obtain ⟨_, e⟩ := hp
  subst e
  unfold t__law_amount
  refine st_seq (st_par ?_)
  have allI : ∀ (ks : List Int), (∀ k ∈ ks, 0 < k ∧ k ≤ 40) → ∀ d ∈ ks.map PyData.int, ∃ k : Int, d = .int k ∧ 0 < k ∧ k ≤ 40 := fun ks hk d hd => by
    obtain ⟨k, h1, rfl⟩ := List.mem_map.mp hd
    exact ⟨k, rfl, hk k h1⟩
  refine ea_cons (ev_callW rfl ?_)
  walk_at "dd"
  refine ⟨⟨_, rfl, by simp, by simp⟩, fun d ⟨xs, ex, hd⟩ => ?_⟩
  cases ex
  obtain ⟨t, rfl, ht0, ht1⟩ := allI [1, 2, 3, 4, 4, 9, 40] (by decide) d hd
  refine ea_cons (ev_callW rfl ?_)
  walk_at "dd"
  refine ⟨⟨_, rfl, by simp, by simp⟩, fun d ⟨xs, ex, hd⟩ => ?_⟩
  cases ex
  obtain ⟨u, rfl, hu0, hu1⟩ : ∃ k : Int, d = .int k ∧ 0 < k ∧ k ≤ 7 := by
    have : ∀ d ∈ ([1, 1, 1, 2, 3, 7] : List Int).map PyData.int, ∃ k : Int, d = .int k ∧ 0 < k ∧ k ≤ 7 := fun d hd => by
      obtain ⟨k, h1, rfl⟩ := List.mem_map.mp hd
      exact ⟨k, rfl, (by decide : ∀ k ∈ ([1, 1, 1, 2, 3, 7] : List Int), 0 < k ∧ k ≤ 7) k h1⟩
    exact this d hd
  refine ea_nil ⟨_, _, rfl, ?_⟩
  refine st_ret (ev_callP (ea_cons (ev_op (ev_int (ev_callW rfl (ea_cons (ev_var rfl (ea_nil ⟨⟨_, rfl, ht0, by omega⟩, fun d ⟨m, z, em, ed, hz0, hz1⟩ => ?_⟩))))))))
  cases em
  subst ed
  refine ro_add (ea_cons (ev_op (ev_int (ev_callW rfl (ea_cons (ev_var rfl (ea_nil ⟨⟨_, rfl, hu0, by omega⟩, fun d ⟨m, y, em, ed, hy0, hy1⟩ => ?_⟩)))))))
  cases em
  subst ed
  refine ro_add (ea_nil ⟨⟨_, _, rfl, by omega, Nat.lt_of_le_of_lt (by omega : _ ≤ 7) (Nat.lt_of_lt_of_le (by decide : 7 < 2 ^ 3) (Nat.pow_le_pow_right (by decide) (show 3 ≤ 9000 by omega)))⟩, fun d ⟨n, m, enm, p, q, g, ed, hg, hq, hpq, hr⟩ => ?_⟩)
  cases enm
  subst ed
  have hr' : 1 + z = p * g ∧ 1 + y = q * g := by
    rcases hr with h | ⟨h, _⟩
    · exact h
    · omega
  refine ⟨p, q, rfl, ?_, ?_, hq, ?_, hpq⟩
  · exact Int.pos_of_mul_pos_left (by rw [← hr'.1]; omega) hg
  · have : p ≤ p * g := Int.le_mul_of_one_le_right' (Int.le_of_lt (Int.pos_of_mul_pos_left (by rw [← hr'.1]; omega) hg)) hg
    omega
  · have : q ≤ q * g := Int.le_mul_of_one_le_right' (Int.le_of_lt hq) hg
    omega
theorem ok__law_amount (T : Tx K mg) : FnOk P w K mg base CX0 3 T.a__law_amount T.d__law_amount p__law_amount (sp__law_amount K) := by
  refine T.F__law_amount.ok sc__law_amount (fun vs H Q E h => len__law_amount K vs H Q E h) (fun cdv A outer s H vs Q E hr h => ?_)
  exact ⟨t__law_amount K, (pss_cons (ps_par (by rfl) sc__law_amount.nd rfl rfl (by decide) rfl rfl (pa_cons (pe_call (ok__law_one T) (hr.mono (by decide)) rfl T.g__law_one T.F__law_one.kp (b__law_one T) .nil pass0 (pa_cons (pv 0) (pa_cons (pe_lst (pa_cons pe_int (pa_cons pe_int (pa_cons pe_int (pa_cons pe_int (pa_cons pe_int (pa_cons pe_int (pa_cons pe_int pa_nil)))))))) pa_nil))) (pa_cons (pe_call (ok__law_one T) (hr.mono (by decide)) rfl T.g__law_one T.F__law_one.kp (b__law_one T) .nil pass0 (pa_cons (pv 0) (pa_cons (pe_lst (pa_cons pe_int (pa_cons pe_int (pa_cons pe_int (pa_cons pe_int (pa_cons pe_int (pa_cons pe_int pa_nil))))))) pa_nil))) pa_nil)) (by rfl))
  (pss_one (ps_ret (pe_call (ok__law_cut T) (hr.mono (by decide)) rfl T.g__law_cut T.F__law_cut.kp (b__law_cut T) .nil pass0 (pa_cons (pe_op op_addA pe_int (pe_call (ok__law_pull T) (hr.mono (by decide)) rfl T.g__law_pull T.F__law_pull.kp (b__law_pull T) .nil pass0 (pa_cons (pv 0) (pa_cons (pv 1) pa_nil)))) (pa_cons (pe_op op_addA pe_int (pe_call (ok__law_pull T) (hr.mono (by decide)) rfl T.g__law_pull T.F__law_pull.kp (b__law_pull T) .nil pass0 (pa_cons (pv 0) (pa_cons (pv 2) pa_nil)))) pa_nil)))))), pure__law_amount K vs H Q E h⟩
/-! ### _law_any_fraction -/

def pre__law_any_fraction : List PyData → Prop := fun ds => True ∧ ds = []
def post__law_any_fraction : List PyData → PyData → Prop := fun ds d => ∃ x : Fr, d = frD x ∧ FOk x ∧ x.1.natAbs < 2 ^ 6 ∧ x.2 < 2 ^ 6
abbrev sp__law_any_fraction (K : PySem.W.Frag) : Sp := SpW K pre__law_any_fraction post__law_any_fraction
theorem len__law_any_fraction (K : PySem.W.Frag) (vs : List V) (H : Hp) (Q : VK) (E : XK) (h : sp__law_any_fraction K vs H Q E) : vs.length = p__law_any_fraction.length := len_W (n := 0) h fun ds hp => by
  obtain ⟨_, e⟩ := hp
  rw [e]; rfl
def t__law_any_fraction (K : PySem.W.Frag) : TS :=
  (tSeq (tPar 1 2 (tCons (tCall (sp__law_amount K) [] E0 (tCons (tVar 0) tNil)) (tCons (tCall (sp__law_pull K) [] E0 (tCons (tVar 0) (tCons (tC (.int 5)) tNil))) tNil)))
  (tRet (tIf (tTest (tOp rEq (tVar 2) (tC (.int 0)))) (tTup (tCons (tC (.int 0)) (tCons (tC (.int 1)) tNil))) (tIf (tTest (tOp (rI0 fun i j => .bl (decide (i < j))) (tVar 2) (tC (.int 3)))) (tTup (tCons (tOp (rI0 fun i j => .int (i - j)) (tC (.int 0)) (tOp (rIx K) (tVar 1) (tC (.int 0)))) (tCons (tOp (rIx K) (tVar 1) (tC (.int 1))) tNil))) (tVar 1)))))
theorem pure__law_any_fraction (K : PySem.W.Frag) (vs : List V) (H : Hp) (Q : VK) (E : XK) (h : sp__law_any_fraction K vs H Q E) : t__law_any_fraction K { nx := fun _ H' => Q .non H', rt := Q } (L2.start N__law_any_fraction vs) H := body_W h (by decide) fun B w ds hp => by
  obtain ⟨_, e⟩ := hp
  subst e
  unfold t__law_any_fraction

  refine st_seq (st_par (ea_cons (ev_callW rfl (ea_nil ⟨⟨trivial, rfl⟩, fun X ⟨n, m, ex, n0, n40, m0, m7, g⟩ => ?_⟩))))
  subst ex
  have p6 : (2 : Nat) ^ 6 = 64 := rfl
  have q6 : (2 : Int) ^ 6 = 64 := rfl
  refine ea_cons (ev_callW rfl (ea_cons (ev_int (ea_nil ⟨⟨5, rfl, by decide, by decide⟩, fun d ⟨m', z, em, ed, z0, z1⟩ => ?_⟩))))
  subst ed
  refine ea_nil ⟨_, _, rfl, ?_⟩
  refine st_ret (ev_if (et_test (ev_op (ev_var rfl (ev_int (rok_eqI ⟨_, rfl, fun _ => ?_, fun _ => ?_⟩))))))
  · exact ev_tup (ea_cons (ev_int (ea_cons (ev_int (ea_nil ⟨by simp, (0, 1), rfl, fok_zero, by decide, by decide⟩)))))
  · refine ev_if (et_test (ev_op (ev_var rfl (ev_int (rok_b0 ⟨_, rfl, fun _ => ?_, fun _ => ?_⟩)))))
    · refine ev_tup (ea_cons (ev_op (ev_int (ev_op (ev_var rfl (ev_int (rok_ixsT (d := .int n) rfl (rok_i0 ?_))))))))
      refine ea_cons (ev_op (ev_var rfl (ev_int (rok_ixsT (d := .int m) rfl (ea_nil ⟨by simp, (0 - n, m), rfl, ⟨m0, ?_⟩, ?_, ?_⟩)))))
      · show Nat.gcd (0 - n).natAbs m.natAbs = 1
        rw [show (0 - n).natAbs = n.natAbs by omega]
        exact g
      · show (0 - n).natAbs < _
        omega
      · show m < _
        omega
    · refine ev_var rfl ⟨(n, m), rfl, ⟨m0, g⟩, ?_, ?_⟩
      · show n.natAbs < _
        omega
      · show m < _
        omega
theorem ok__law_any_fraction (T : Tx K mg) : FnOk P w K mg base CX0 4 T.a__law_any_fraction T.d__law_any_fraction p__law_any_fraction (sp__law_any_fraction K) := by
  refine T.F__law_any_fraction.ok sc__law_any_fraction (fun vs H Q E h => len__law_any_fraction K vs H Q E h) (fun cdv A outer s H vs Q E hr h => ?_)
  exact ⟨t__law_any_fraction K, (pss_cons (ps_par (by rfl) sc__law_any_fraction.nd rfl rfl (by decide) rfl rfl (pa_cons (pe_call (ok__law_amount T) (hr.mono (by decide)) rfl T.g__law_amount T.F__law_amount.kp (b__law_amount T) .nil pass0 (pa_cons (pv 0) pa_nil)) (pa_cons (pe_call (ok__law_pull T) (hr.mono (by decide)) rfl T.g__law_pull T.F__law_pull.kp (b__law_pull T) .nil pass0 (pa_cons (pv 0) (pa_cons pe_int pa_nil))) pa_nil)) (by rfl))
  (pss_one (ps_ret (pe_ifExp (pt_cmpR op_eq (pv 2) pe_int (nomark _)) (pe_tup (pa_cons pe_int (pa_cons pe_int pa_nil))) (pe_ifExp (pt_cmpR op_lt (pv 2) pe_int (nomark _)) (pe_tup (pa_cons (pe_op op_sub pe_int (pe_ix ix_seq (pv 1) pe_int (fun _ _ => rfl))) (pa_cons (pe_ix ix_seq (pv 1) pe_int (fun _ _ => rfl)) pa_nil))) (pv 1)))))), pure__law_any_fraction K vs H Q E h⟩
/-! ### _law_trim -/
def pre__law_trim : List PyData → Prop := fun ds => ∃ ns : List Int, ds = [.list (ns.map .int)] ∧ ns.length ≤ 1000
def post__law_trim : List PyData → PyData → Prop := fun ds d => ∃ ns : List Int, ds = [.list (ns.map .int)] ∧ d = .list ((trim ns).map .int)
abbrev sp__law_trim (K : PySem.W.Frag) : Sp := SpP K pre__law_trim post__law_trim
theorem len__law_trim (K : PySem.W.Frag) (vs : List V) (H : Hp) (Q : VK) (E : XK) (h : sp__law_trim K vs H Q E) : vs.length = p__law_trim.length := len_P (n := 1) h fun ds hp => by
  obtain ⟨ns, e, hl⟩ := hp
  rw [e]; rfl
def t__law_trim (K : PySem.W.Frag) : TS :=
  (tSeq (tAsg (tCB (rListQ K) (tCons (tVar 0) tNil)) (gName 1))
  (tSeq (tWhile (tAnd (tTest (tOp (rI0 fun i j => .bl (decide (j < i))) (tCB (rLenQ K) (tCons (tVar 1) tNil)) (tC (.int 0)))) (tTest (tOp rEq (tOp (rIx K) (tVar 1) (tOp (rI0 fun i j => .int (i - j)) (tCB (rLenQ K) (tCons (tVar 1) tNil)) (tC (.int 1)))) (tC (.int 0))))) (tDrop (tBM0 K "list" rPop (tVar 1))))
  (tRet (tVar 1))))
theorem pure__law_trim (K : PySem.W.Frag) (vs : List V) (H : Hp) (Q : VK) (E : XK) (h : sp__law_trim K vs H Q E) : t__law_trim K { nx := fun _ H' => Q .non H', rt := Q } (L2.start N__law_trim vs) H := body_P h fun B ds hW hp => by
  obtain ⟨ns, e, hl⟩ := hp
  subst e
  unfold t__law_trim
  refine st_seq (st_own (en_listQ (ev_var rfl ⟨_, .inr rfl, fun l => ?_⟩)))
  refine st_seq (st_while (fun m L2 Γ2 => L2 = [l] ∧ Γ2 = [.d (.list (ns.map .int)), .own l ((ns.take m).map .int)] ∧ m ≤ ns.length ∧ ∀ x ∈ ns.drop m, x = 0) ns.length ⟨rfl, by rw [List.take_length]; rfl, Nat.le_refl _, by simp⟩ ?_)
  rintro m L2 Γ2 ⟨rfl, rfl, hm, hz⟩
  have hlen : ((ns.take m).map PyData.int).length = m := by simp; omega
  have fin : (0 < m → ns.getD (m - 1) 0 ≠ 0) → StP K B [] [l] [.d (.list (ns.map .int)), .own l ((ns.take m).map .int)] (tRet (tVar 1)) { nx := fun _ _ => post__law_trim [.list (ns.map .int)] .none, rt := post__law_trim [.list (ns.map .int)] } := fun hne => by
    refine st_freeze 1 rfl (by simp) (st_ret (ev_var rfl ⟨ns, rfl, ?_⟩))
    rw [trim_take hz hne]
  walk_at "dd"
  refine ⟨fun hb => ?_, fun hb => ⟨(fun z => nomatch z), fun _ => fin fun h0 => ?_⟩⟩
  · have hm0 : 0 < m := by
      rw [hlen] at hb
      have := of_decide_eq_true hb
      omega
    have hg : ns[m - 1]? = some (ns.getD (m - 1) 0) := by
      rw [List.getD_eq_getElem?_getD, List.getElem?_eq_getElem (by omega)]
      rfl
    refine et_test (ev_op (ev_ixOwn rfl ?_))
    walk_at "dd"
    refine ⟨_, .int (ns.getD (m - 1) 0), rfl, ?_, ?_⟩
    · rw [hlen, show ((m : Int) - 1) = ((m - 1 : Nat) : Int) by omega, atI_n, List.getElem?_map, List.getElem?_take_of_lt (by omega), hg]
      rfl
    walk_at "dd"
    refine ⟨fun hb2 => ?_, fun hb2 => fin fun _ => of_decide_eq_false hb2⟩
    have e0 : ns.getD (m - 1) 0 = 0 := of_decide_eq_true hb2
    refine st_pop rfl (by intro z; rw [z] at hlen; simp at hlen; omega) ⟨m - 1, by omega, rfl, ?_, by omega, fun x hx => ?_⟩
    · show [_, Sl.own l _] = _
      rw [List.dropLast_eq_take, hlen, ← List.map_take, List.take_take, Nat.min_eq_left (by omega)]
    · have : ns.drop (m - 1) = ns.getD (m - 1) 0 :: ns.drop m := by
        rw [List.drop_eq_getElem_cons (by omega), show m - 1 + 1 = m by omega]
        rw [List.getD_eq_getElem?_getD, List.getElem?_eq_getElem (by omega)]
        rfl
      rw [this] at hx
      rcases List.mem_cons.mp hx with h | h
      · rw [h, e0]
      · exact hz x h
  · exfalso
    rw [hlen] at hb
    have := of_decide_eq_false hb
    omega
theorem ok__law_trim (T : Tx K mg) : FnOk P w K mg base CX0 1 T.a__law_trim T.d__law_trim p__law_trim (sp__law_trim K) := by
  refine T.F__law_trim.ok sc__law_trim (fun vs H Q E h => len__law_trim K vs H Q E h) (fun cdv A outer s H vs Q E hr h => ?_)
  exact ⟨t__law_trim K, (pss_cons (ps_set (i := 1) sc__law_trim.nd rfl (Or.inl rfl) (pe_callTy call_list_of (by rfl) T.n_list (by decide +kernel) (pa_cons (pv 0) pa_nil)))
  (pss_cons (ps_while PassesOwn.never (PW.pt (pw_and (pt_cmpR op_gt (pe_callB call_len_seq (by rfl) T.n_len (by decide +kernel) (pa_cons (pv 1) pa_nil)) pe_int (nomark _)) (pw_and1 (pt_cmpR op_eq (pe_ix ix_seq (pv 1) (pe_op op_sub (pe_callB call_len_seq (by rfl) T.n_len (by decide +kernel) (pa_cons (pv 1) pa_nil)) pe_int) (fun _ _ => rfl)) pe_int (nomark _))))) (pss_one (ps_expr (pe_bm0 PySem.F.plainAttrs_list PySem.F.slot_list_pop PySem.F.type_list_pop mt_pop (pv 1)))))
  (pss_one (ps_ret (pv 1))))), pure__law_trim K vs H Q E h⟩
/-! ### _law_product -/
theorem li_inj {u v : List Int} (h : PyData.list (u.map .int) = .list (v.map .int)) : u = v := map_int_inj (PyData.list.inj h)
theorem li1 {u v : List Int} (h : [PyData.list (u.map .int)] = [.list (v.map .int)]) : u = v := li_inj (List.cons.inj h).1
theorem li2 {u v a b : List Int} (h : [PyData.list (u.map .int), .list (v.map .int)] = [.list (a.map .int), .list (b.map .int)]) : u = a ∧ v = b := by
  simp only [List.cons.injEq, and_true] at h
  exact ⟨li_inj h.1, li_inj h.2⟩
theorem drop_zero {r : List Int} {m : Nat} (h : ∀ j, m ≤ j → r.getD j 0 = 0) : ∀ x ∈ r.drop m, x = 0 := fun x hx => by
  obtain ⟨k, hk⟩ := mem_get hx
  rw [← hk, List.getD_eq_getElem?_getD, List.getElem?_drop, ← List.getD_eq_getElem?_getD]
  exact h _ (by omega)
theorem lat {u : List Int} {i : Nat} (h : i < u.length) : (u.map PyData.int)[i]? = some (.int (u.getD i 0)) := by
  rw [List.getElem?_map, List.getD_eq_getElem?_getD, List.getElem?_eq_getElem h]
  rfl

def pre__law_product : List PyData → Prop := fun ds => ∃ u v : List Int, ds = [.list (u.map .int), .list (v.map .int)] ∧ u.length ≤ 100 ∧ v.length ≤ 100 ∧ n1 u < 2 ^ 4000 ∧ n1 v < 2 ^ 4000
def post__law_product : List PyData → PyData → Prop := fun ds d => ∃ u v t : List Int, ds = [.list (u.map .int), .list (v.map .int)] ∧ d = .list (t.map .int) ∧ t.getLast? ≠ some 0 ∧ t.length ≤ u.length + v.length ∧ n1 t ≤ n1 u * n1 v ∧ ∀ x, pI t x = pI u x * pI v x
abbrev sp__law_product (K : PySem.W.Frag) : Sp := SpP K pre__law_product post__law_product
theorem len__law_product (K : PySem.W.Frag) (vs : List V) (H : Hp) (Q : VK) (E : XK) (h : sp__law_product K vs H Q E) : vs.length = p__law_product.length := len_P (n := 2) h fun ds hp => by
  obtain ⟨U, V, e, hl, hl2, bu, bv⟩ := hp
  rw [e]; rfl
def t__law_product (K : PySem.W.Frag) : TS :=
  (tSeq (tAsg (tOp (rMulA K) (tLst (tCons (tC (.int 0)) tNil)) (tOp (rAddA K) (tCB (rLenQ K) (tCons (tVar 0) tNil)) (tCB (rLenQ K) (tCons (tVar 1) tNil)))) (gName 2))
  (tSeq (tFor (iRng1 (tCons (tCB (rLenQ K) (tCons (tVar 0) tNil)) tNil)) (gName 3) (tFor (iRng1 (tCons (tCB (rLenQ K) (tCons (tVar 1) tNil)) tNil)) (gName 4) (tAsg (tOp (rAddA K) (tOp (rIx K) (tVar 2) (tOp (rAddA K) (tVar 3) (tVar 4))) (tOp (rMulA K) (tOp (rIx K) (tVar 0) (tVar 3)) (tOp (rIx K) (tVar 1) (tVar 4)))) (gSub (tVar 2) (tOp (rAddA K) (tVar 3) (tVar 4)) rSetL))))
  (tRet (tCall (sp__law_trim K) [] E0 (tCons (tVar 2) tNil)))))
theorem pure__law_product (K : PySem.W.Frag) (vs : List V) (H : Hp) (Q : VK) (E : XK) (h : sp__law_product K vs H Q E) : t__law_product K { nx := fun _ H' => Q .non H', rt := Q } (L2.start N__law_product vs) H := body_P h fun B ds hW hp => by
  obtain ⟨U, V, e, hl, hl2, bu, bv⟩ := hp
  subst e
  unfold t__law_product
  refine st_seq (st_own (en_rep (ev_lst (ea_cons (ev_int (ea_nil ⟨by simp, ?_⟩))))))
  refine ev_op (ev_cb (ea_cons (ev_var rfl (ea_nil (co_lenL (ev_cb (ea_cons (ev_var rfl (ea_nil (co_lenL (ro_add ?_)))))))))))
  rw [List.length_map, List.length_map]
  refine ⟨[.int 0], _, rfl, rfl, by omega, by omega, by simp; omega, fun l => ?_⟩
  have e0 : (List.replicate ((U.length : Int) + (V.length : Int)).toNat [PyData.int 0]).flatten = (List.replicate (U.length + V.length) (0 : Int)).map .int := by
    rw [List.flatten_replicate_singleton, List.map_replicate]
    congr 1
  rw [e0]
  refine st_seq (st_forR (ea_cons (ev_cb (ea_cons (ev_var rfl (ea_nil (co_lenL (ea_nil ⟨_, rfl, by omega, by rw [List.length_map]; omega, fun i L2 Γ2 => ∃ (w : List Int) (s3 s4 : Sl), L2 = [l] ∧ Γ2 = [.d (.list (U.map .int)), .d (.list (V.map .int)), .own l (w.map .int), s3, s4] ∧ w.length = U.length + V.length ∧ (∀ x, pI w x = pI (U.take i) x * pI V x) ∧ n1 w ≤ n1 (U.take i) * n1 V, ⟨_, _, _, rfl, rfl, List.length_replicate .., fun x => ?_, ?_⟩, ?_, ?_⟩))))))))
  · rw [List.take_zero, pI_ext (u := List.replicate (U.length + V.length) 0) (v := []) (fun k => by
      rw [getD_out (u := []) (Nat.zero_le _), List.getD_eq_getElem?_getD, List.getElem?_replicate]
      split <;> rfl) x, pI_nil]
    grind
  · rw [n1_zeros]
    exact Nat.zero_le _
  · rintro i L2 Γ2 hi ⟨w, s3, s4, rfl, rfl, wl, wv, wn⟩
    rw [List.length_map, Int.toNat_natCast] at hi
    refine st_forR (ea_cons (ev_cb (ea_cons (ev_var rfl (ea_nil (co_lenL (ea_nil ⟨_, rfl, by omega, by rw [List.length_map]; omega, fun j L3 Γ3 => ∃ (w : List Int) (s4 : Sl), L3 = [l] ∧ Γ3 = [.d (.list (U.map .int)), .d (.list (V.map .int)), .own l (w.map .int), .d (.int (i : Int)), s4] ∧ w.length = U.length + V.length ∧ (∀ x, pI w x = pI (U.take i) x * pI V x + ((U.getD i 0 : Int) : Rat) * x ^ i * pI (V.take j) x) ∧ n1 w ≤ n1 (U.take i) * n1 V + (U.getD i 0).natAbs * n1 (V.take j), ⟨w, _, rfl, rfl, wl, fun x => ?_, ?_⟩, ?_, ?_⟩)))))))
    · rw [wv, List.take_zero, pI_nil]
      grind
    · rw [List.take_zero]
      show _ ≤ _ + _ * 0
      omega
    · rintro j L3 Γ3 hj ⟨w, s4, rfl, rfl, wl, wv, wn⟩
      rw [List.length_map, Int.toNat_natCast] at hj
      have hk : i + j < w.length := by omega
      have au : atI (U.map PyData.int) (i : Int) = some (.int (U.getD i 0)) := by rw [atI_n, lat hi]
      have av : atI (V.map PyData.int) (j : Int) = some (.int (V.getD j 0)) := by rw [atI_n, lat hj]
      have aw : atI (w.map PyData.int) ((i : Int) + (j : Int)) = some (.int (w.getD (i + j) 0)) := by
        rw [show ((i : Int) + (j : Int)) = ((i + j : Nat) : Int) by omega, atI_n, lat hk]
      have tk := n1_take U i hi
      have tl := n1_take V j hj
      have ul := Nat.lt_of_le_of_lt (n1_get U i) bu
      have vl := Nat.lt_of_le_of_lt (n1_get V j) bv
      refine st_setOwn rfl (ev_op (ev_ixOwn rfl (ev_op (ev_var rfl (ev_var rfl (ro_add ⟨_, _, rfl, aw, ev_op (ev_op (ev_var rfl (ev_var rfl (rok_ixsL au (ev_op (ev_var rfl (ev_var rfl (rok_ixsL av (ro_mulW (mulW_of ul vl (by decide)) (ro_add ?_))))))))))⟩))))))
      refine ev_op (ev_var rfl (ev_var rfl (ro_add ⟨i + j, by rw [show ((i : Int) + (j : Int)) = ((i + j : Nat) : Int) from (Int.natCast_add i j).symm], by rw [List.length_map]; exact hk, w.set (i + j) (w.getD (i + j) 0 + U.getD i 0 * V.getD j 0), .d (.int (j : Int)), rfl, ?_, by rw [List.length_set]; exact wl, fun x => ?_, ?_⟩)))
      · rw [List.map_set]
        rfl
      · have e1 : pI (w.set (i + j) (w.getD (i + j) 0 + U.getD i 0 * V.getD j 0)) x = pI w x + ((U.getD i 0 * V.getD j 0 : Int) : Rat) * x ^ (i + j) := by
          unfold pI
          have := pe_set ((U.getD i 0 * V.getD j 0 : Int) : Rat) x (ri w) (i + j) (by unfold ri; rw [List.length_map]; exact hk)
          rw [← this]
          congr 1
          rw [ri_get]
          unfold ri
          rw [List.map_set, Rat.intCast_add]
        have e2 : pI (V.take (j + 1)) x = pI (V.take j) x + ((V.getD j 0 : Int) : Rat) * x ^ j := by
          have := pe_take x (ri V) j (by unfold ri; rw [List.length_map]; exact hj)
          rw [ri_get] at this
          unfold pI
          unfold ri at this ⊢
          rw [List.map_take, List.map_take]
          exact this
        rw [e1, e2, wv, Rat.intCast_mul, rpow_add]
        grind
      · have e1 := n1_set (U.getD i 0 * V.getD j 0) w (i + j)
        rw [Int.natAbs_mul] at e1
        rw [tl, Nat.mul_add]
        omega
    · rintro L3 Γ3 ⟨w, s4, rfl, rfl, wl, wv, wn⟩
      rw [List.length_map, Int.toNat_natCast, List.take_length] at wv wn
      refine ⟨w, _, _, rfl, rfl, wl, fun x => ?_, ?_⟩
      · have e2 : pI (U.take (i + 1)) x = pI (U.take i) x + ((U.getD i 0 : Int) : Rat) * x ^ i := by
          have := pe_take x (ri U) i (by unfold ri; rw [List.length_map]; exact hi)
          rw [ri_get] at this
          unfold pI
          unfold ri at this ⊢
          rw [List.map_take, List.map_take]
          exact this
        rw [wv, e2]
        grind
      · have e2 := n1_take U i hi
        rw [e2, Nat.add_mul]
        omega
  · rintro L2 Γ2 ⟨w, s3, s4, rfl, rfl, wl, wv, wn⟩
    rw [List.length_map, Int.toNat_natCast, List.take_length] at wv wn
    refine st_freeze 2 rfl (by simp) (st_ret (ev_callP (ea_cons (ev_var rfl (ea_nil ⟨⟨w, rfl, by omega⟩, fun d ⟨r, e, ed⟩ => ?_⟩)))))
    obtain rfl : w = r := li1 e
    have tl := trim_len w
    exact ⟨U, V, trim w, rfl, ed, trim_last _, by omega, Nat.le_trans (n1_trim w) wn, fun x => by rw [pI_trim, wv]⟩
theorem ok__law_product (T : Tx K mg) : FnOk P w K mg base CX0 2 T.a__law_product T.d__law_product p__law_product (sp__law_product K) := by
  refine T.F__law_product.ok sc__law_product (fun vs H Q E h => len__law_product K vs H Q E h) (fun cdv A outer s H vs Q E hr h => ?_)
  exact ⟨t__law_product K, (pss_cons (ps_set (i := 2) sc__law_product.nd rfl (Or.inl rfl) (pe_op op_mulA (pe_lst (pa_cons pe_int pa_nil)) (pe_op op_addA (pe_callB call_len_seq (by rfl) T.n_len (by decide +kernel) (pa_cons (pv 0) pa_nil)) (pe_callB call_len_seq (by rfl) T.n_len (by decide +kernel) (pa_cons (pv 1) pa_nil)))))
  (pss_cons (ps_for PassesOwn.never rfl (pi_range1 (by rfl) T.n_range (pa_cons (pe_callB call_len_seq (by rfl) T.n_len (by decide +kernel) (pa_cons (pv 0) pa_nil)) pa_nil)) (pg_name (i := 3) sc__law_product.nd rfl (Or.inl rfl)) (pss_one (ps_for PassesOwn.never rfl (pi_range1 (by rfl) T.n_range (pa_cons (pe_callB call_len_seq (by rfl) T.n_len (by decide +kernel) (pa_cons (pv 1) pa_nil)) pa_nil)) (pg_name (i := 4) sc__law_product.nd rfl (Or.inl rfl)) (pss_one (ps_asg (pe_op op_addA (pe_ix ix_seq (pv 2) (pe_op op_addA (pv 3) (pv 4)) (fun _ _ => rfl)) (pe_op op_mulA (pe_ix ix_seq (pv 0) (pv 3) (fun _ _ => rfl)) (pe_ix ix_seq (pv 1) (pv 4) (fun _ _ => rfl)))) (pg_sub (pv 2) (pe_op op_addA (pv 3) (pv 4)) set_list))))))
  (pss_one (ps_ret (pe_call (ok__law_trim T) (hr.mono (by decide)) rfl T.g__law_trim T.F__law_trim.kp (b__law_trim T) .nil pass0 (pa_cons (pv 2) pa_nil)))))), pure__law_product K vs H Q E h⟩
/-! ### _law_light -/

def pre__law_light : List PyData → Prop := fun ds => ∃ (b : Bool) (u : List Int), ds = [rowLT b (u.map .int)] ∧ u.length ≤ 400 ∧ n1 u < 2 ^ 13400
def post__law_light : List PyData → PyData → Prop := fun ds d => ∃ (b : Bool) (u : List Int), ds = [rowLT b (u.map .int)] ∧ d = .list ((prim u).map .int)
abbrev sp__law_light (K : PySem.W.Frag) : Sp := SpP K pre__law_light post__law_light
theorem len__law_light (K : PySem.W.Frag) (vs : List V) (H : Hp) (Q : VK) (E : XK) (h : sp__law_light K vs H Q E) : vs.length = p__law_light.length := len_P (n := 1) h fun ds hp => by
  obtain ⟨b, u, e, hl, bu⟩ := hp
  rw [e]; rfl
def t__law_light (K : PySem.W.Frag) : TS :=
  (tSeq (tAsg (tC (.int 0)) (gName 1))
  (tSeq (tFor (iLT K (tVar 0)) (gName 2) (tAsg (tCall (sp__law_gcd K) [] E0 (tCons (tVar 1) (tCons (tVar 2) tNil))) (gName 1)))
  (tRet (tIf (tTest (tOp (rI0 fun i j => .bl (decide (j < i))) (tVar 1) (tC (.int 1)))) (tLc (iLT K (tVar 0)) (gName 2) tYes (tOp rFdX (tVar 2) (tVar 1)) [2]) (tCB (rListQ K) (tCons (tVar 0) tNil))))))
theorem pure__law_light (K : PySem.W.Frag) (vs : List V) (H : Hp) (Q : VK) (E : XK) (h : sp__law_light K vs H Q E) : t__law_light K { nx := fun _ H' => Q .non H', rt := Q } (L2.start N__law_light vs) H := body_P h fun B ds hW hp => by
  obtain ⟨b, u, e, hl, bu⟩ := hp
  subst e
  unfold t__law_light
  refine st_seq (st_asg (ev_int ?_))
  refine st_seq (st_forLT (ev_var rfl ⟨b, _, rfl, fun i L2 Γ2 => ∃ s : Sl, L2 = [] ∧ Γ2 = [.d (rowLT b (u.map .int)), .d (.int ((gcdL (u.take i) : Nat) : Int)), s], ⟨_, rfl, rfl⟩, ?_, ?_⟩))
  · rintro i d' L2 Γ2 g hi ⟨s, rfl, rfl⟩
    obtain ⟨x, hx, rfl⟩ : ∃ x, u[i]? = some x ∧ d' = .int x := map_get hi
    refine st_asg (ev_callP (ea_cons (ev_var rfl (ea_cons (ev_var rfl (ea_nil ⟨⟨_, _, rfl⟩, fun d ⟨a, c, e, ed⟩ => ?_⟩))))))
    simp only [List.cons.injEq, PyData.int.injEq, and_true] at e
    obtain ⟨rfl, rfl⟩ := e
    subst ed
    refine ⟨.d (.int x), rfl, ?_⟩
    rw [List.take_add_one, hx]
    show [_, Sl.d (.int _), _] = [_, Sl.d (.int ((gcdL (u.take i ++ [x]) : Nat) : Int)), _]
    rw [gcd_snoc, Int.natAbs_natCast]
  · rintro L2 Γ2 ⟨s, rfl, rfl⟩
    rw [List.length_map, List.take_length]
    refine st_ret (ev_if (et_test (ev_op (ev_var rfl (ev_int (rok_b0 ⟨_, rfl, fun hb => ?_, fun hb => ?_⟩))))))
    · have g1 := of_decide_eq_true hb
      refine ev_new (en_lcLT (wipe1 2) (ev_var rfl ⟨b, _, rfl, by rw [List.length_map]; omega, fun i acc => acc = ((u.take i).map fun x => PyData.int (x / ((gcdL u : Nat) : Int))), ⟨rfl, fun i D d' acc hi hJ hin => ?_⟩, fun acc hJ => ⟨b, u, rfl, ?_⟩⟩))
      · obtain ⟨x, hx, rfl⟩ : ∃ x, u[i]? = some x ∧ d' = .int x := map_get hi
        have xm := List.mem_of_getElem? hx
        have xb : x.natAbs < 2 ^ 13400 := by
          obtain ⟨k, hk⟩ := mem_get xm
          rw [← hk]
          exact Nat.lt_of_le_of_lt (n1_get u k) bu
        refine et_yes ⟨fun _ => ?_, fun z => nomatch z⟩
        refine ev_op (ev_var rfl (ev_var rfl (ro_fdX ⟨by omega, .inr ?_⟩ ?_)))
        · have := lg xb
          omega
        · rw [Int.fdiv_eq_ediv_of_dvd (gcdL_dvd xm)]
          subst hJ
          rw [List.take_add_one, hx, List.map_append]
          rfl
      · rw [hJ, List.length_map, List.take_length]
        unfold prim
        rw [List.map_map]
        rfl
    · have g1 := of_decide_eq_false hb
      refine ev_new (en_listQ (ev_var rfl ⟨_, lt_kind b _, b, u, rfl, ?_⟩))
      rw [prim_le (by omega)]
theorem ok__law_light (T : Tx K mg) : FnOk P w K mg base CX0 2 T.a__law_light T.d__law_light p__law_light (sp__law_light K) := by
  refine T.F__law_light.ok sc__law_light (fun vs H Q E h => len__law_light K vs H Q E h) (fun cdv A outer s H vs Q E hr h => ?_)
  exact ⟨t__law_light K, (pss_cons (ps_set (i := 1) sc__law_light.nd rfl (Or.inr rfl) pe_int)
  (pss_cons (ps_for PassesOwn.never rfl (pi_LT (pv 0)) (pg_name (i := 2) sc__law_light.nd rfl (Or.inl rfl)) (pss_one (ps_set (i := 1) sc__law_light.nd rfl (Or.inr rfl) (pe_call (ok__law_gcd T) (hr.mono (by decide)) rfl T.g__law_gcd T.F__law_gcd.kp (b__law_gcd T) .nil pass0 (pa_cons (pv 1) (pa_cons (pv 2) pa_nil))))))
  (pss_one (ps_ret (pe_ifExp (pt_cmpR op_gt (pv 1) pe_int (nomark _)) (pe_lc (own := [("_law_each", 2)]) (by rfl) sc__law_light.nd (pi_LT (pv 0)) (blkOk_by (own := [("_law_each", 2)]) (N := N__law_light) (sc := defScope s__law_light) (by decide +kernel)) (fun _ _ _ _ _ => pg_name (i := 2) sc__law_light.nd rfl (Or.inl rfl)) (fun _ _ _ _ _ => pts_nil) (fun _ _ _ _ _ => (pe_op op_fdX (pv 2) (pv 1)))) (pe_callTy call_list_of (by rfl) T.n_list (by decide +kernel) (pa_cons (pv 0) pa_nil))))))), pure__law_light K vs H Q E h⟩
/-! ### _law_upright -/

def pre__law_upright : List PyData → Prop := fun ds => ∃ (b : Bool) (u : List Int), ds = [rowLT b (u.map .int)] ∧ u.length ≤ 400 ∧ n1 u < 2 ^ 13400 ∧ u ≠ [] ∧ u.getLast? ≠ some 0
def post__law_upright : List PyData → PyData → Prop := fun ds d => ∃ (b : Bool) (u : List Int), ds = [rowLT b (u.map .int)] ∧ d = .list ((rdc u).map .int)
abbrev sp__law_upright (K : PySem.W.Frag) : Sp := SpP K pre__law_upright post__law_upright
theorem len__law_upright (K : PySem.W.Frag) (vs : List V) (H : Hp) (Q : VK) (E : XK) (h : sp__law_upright K vs H Q E) : vs.length = p__law_upright.length := len_P (n := 1) h fun ds hp => by
  obtain ⟨b, u, e, hl, bu, un, ut⟩ := hp
  rw [e]; rfl
def t__law_upright (K : PySem.W.Frag) : TS :=
  (tSeq (tAsg (tCall (sp__law_light K) [] E0 (tCons (tVar 0) tNil)) (gName 1))
  (tRet (tIf (tTest (tOp (rI0 fun i j => .bl (decide (i < j))) (tOp (rIx K) (tVar 1) (tOp (rI0 fun i j => .int (i - j)) (tCB (rLenQ K) (tCons (tVar 1) tNil)) (tC (.int 1)))) (tC (.int 0)))) (tLc (iList K (tVar 1)) (gName 2) tYes (tOp (rI0 fun i j => .int (i - j)) (tC (.int 0)) (tVar 2)) [2]) (tVar 1))))
theorem pure__law_upright (K : PySem.W.Frag) (vs : List V) (H : Hp) (Q : VK) (E : XK) (h : sp__law_upright K vs H Q E) : t__law_upright K { nx := fun _ H' => Q .non H', rt := Q } (L2.start N__law_upright vs) H := body_P h fun B ds hW hp => by
  obtain ⟨b, u, e, hl, bu, un, ut⟩ := hp
  subst e
  unfold t__law_upright

  refine st_seq (st_asg (ev_callP (ea_cons (ev_var rfl (ea_nil ⟨⟨b, u, rfl, hl, bu⟩, fun d ⟨_, v, e, ed⟩ => ?_⟩)))))
  obtain rfl : u = v := lt_inj e
  subst ed
  have ul := List.length_pos_iff.mpr un
  have tp := prim_trim ut
  have pn : Mx.prim u ≠ [] := fun z => by
    have := prim_len u
    rw [z] at this
    exact absurd this (by show ¬ (0 : Nat) = u.length; omega)
  have sg := lc_prim_neg ut un
  refine st_ret (ev_if (et_test (ev_op (ev_op (ev_var rfl (ev_op (ev_cb (ea_cons (ev_var rfl (ea_nil (co_lenL (ev_int (rok_i0 (rok_ixsL (intsTop pn) (ev_int (rok_b0 ⟨_, rfl, fun hb => ?_, fun hb => ?_⟩))))))))))))))))
  · have hb := of_decide_eq_true hb
    refine ev_new (en_lcL (wipe1 2) (ev_var rfl ⟨(Mx.prim u).map .int, rfl, by rw [List.length_map, prim_len]; omega, fun i acc => acc = ((((Mx.prim u).map fun x => 0 - x).take i).map PyData.int), ⟨rfl, fun i D d' acc hi hJ hin => ?_⟩, fun acc hJ => ?_⟩))
    · obtain ⟨x, hx, rfl⟩ : ∃ x, (Mx.prim u)[i]? = some x ∧ d' = .int x := map_get hi
      refine et_yes ⟨fun _ => ?_, fun z => nomatch z⟩
      refine ev_op (ev_int (ev_var rfl (rok_i0 ?_)))
      subst hJ
      rw [List.take_add_one, List.getElem?_map, hx, List.map_append]
      rfl
    · rw [List.length_map, show (Mx.prim u).length = ((Mx.prim u).map fun x => 0 - x).length from (List.length_map ..).symm, List.take_length] at hJ
      rw [hJ]
      refine ⟨b, u, rfl, ?_⟩
      rw [rdc_prim, if_pos (sg.mp hb)]
  · have hb := of_decide_eq_false hb
    refine ev_var rfl ⟨b, u, rfl, ?_⟩
    rw [rdc_prim, if_neg (fun z => hb (sg.mpr z))]
theorem ok__law_upright (T : Tx K mg) : FnOk P w K mg base CX0 3 T.a__law_upright T.d__law_upright p__law_upright (sp__law_upright K) := by
  refine T.F__law_upright.ok sc__law_upright (fun vs H Q E h => len__law_upright K vs H Q E h) (fun cdv A outer s H vs Q E hr h => ?_)
  exact ⟨t__law_upright K, (pss_cons (ps_set (i := 1) sc__law_upright.nd rfl (Or.inl rfl) (pe_call (ok__law_light T) (hr.mono (by decide)) rfl T.g__law_light T.F__law_light.kp (b__law_light T) .nil pass0 (pa_cons (pv 0) pa_nil)))
  (pss_one (ps_ret (pe_ifExp (pt_cmpR op_lt (pe_ix ix_seq (pv 1) (pe_op op_sub (pe_callB call_len_seq (by rfl) T.n_len (by decide +kernel) (pa_cons (pv 1) pa_nil)) pe_int) (fun _ _ => rfl)) pe_int (nomark _)) (pe_lc (own := [("_law_each", 2)]) (by rfl) sc__law_upright.nd (pi_list (pv 1)) (blkOk_by (own := [("_law_each", 2)]) (N := N__law_upright) (sc := defScope s__law_upright) (by decide +kernel)) (fun _ _ _ _ _ => pg_name (i := 2) sc__law_upright.nd rfl (Or.inl rfl)) (fun _ _ _ _ _ => pts_nil) (fun _ _ _ _ _ => (pe_op op_sub pe_int (pv 2)))) (pv 1))))), pure__law_upright K vs H Q E h⟩
/-! ### _law_roots_built -/

def pre__law_roots_built : List PyData → Prop := fun ds => ∃ a b : Nat, ds = [.int (a : Int), .int (b : Int)] ∧ 1 ≤ a ∧ a ≤ 3 ∧ 1 ≤ b ∧ b ≤ 3
def post__law_roots_built : List PyData → PyData → Prop := fun ds d => ∃ (a b : Nat) (fs : List (List Int × Nat)), ds = [.int (a : Int), .int (b : Int)] ∧ d = .list (fs.map facD) ∧ 1 ≤ fs.length ∧ fs.length ≤ a ∧ (∀ p ∈ fs, Fac p.1 ∧ 1 ≤ p.2 ∧ p.2 ≤ b) ∧ fs.Pairwise (fun p q => p.1 ≠ q.1)
abbrev sp__law_roots_built (K : PySem.W.Frag) : Sp := SpW K pre__law_roots_built post__law_roots_built
theorem len__law_roots_built (K : PySem.W.Frag) (vs : List V) (H : Hp) (Q : VK) (E : XK) (h : sp__law_roots_built K vs H Q E) : vs.length = p__law_roots_built.length := len_W (n := 2) h fun ds hp => by
  obtain ⟨a, b, e, a1, a3, b1, b3⟩ := hp
  rw [e]; rfl
def t__law_roots_built (K : PySem.W.Frag) : TS :=
  (tSeq (tPar 3 4 (tCons (tLst tNil) (tCons (tLst tNil) tNil)))
  (tSeq (tFor (iRng1 (tCons (tOp (rAddA K) (tC (.int 1)) (tCall (sp__law_pull K) [] E0 (tCons (tVar 0) (tCons (tVar 1) tNil)))) tNil)) (gName 5) (tSeq (tPar 6 7 (tCons (tCall (sp__law_any_fraction K) [] E0 (tCons (tVar 0) tNil)) (tCons (tCall (sp__law_pull K) [] E0 (tCons (tVar 0) (tCons (tC (.int 5)) tNil))) tNil)))
  (tSeq (tAsg (tCall (sp__law_one K) [] E0 (tCons (tVar 0) (tCons (tLst (tCons (tC (.int 2)) (tCons (tC (.int 3)) (tCons (tC (.int 5)) (tCons (tC (.int 6)) (tCons (tC (.int 7)) tNil)))))) tNil))) (gName 8))
  (tSeq (tAsg (tLst (tCons (tOp (rI0 fun i j => .int (i - j)) (tC (.int 0)) (tOp (rIx K) (tVar 6) (tC (.int 0)))) (tCons (tOp (rIx K) (tVar 6) (tC (.int 1))) tNil))) (gName 9))
  (tSeq (tIfS (tTest (tOp rEq (tVar 7) (tC (.int 0)))) (tAsg (tLst (tCons (tOp (rI0 fun i j => .int (i - j)) (tC (.int 0)) (tVar 8)) (tCons (tC (.int 0)) (tCons (tC (.int 1)) tNil)))) (gName 9)) tNext)
  (tSeq (tIfS (tTest (tOp rEq (tVar 7) (tC (.int 1)))) (tAsg (tCall (sp__law_one K) [] E0 (tCons (tVar 0) (tCons (tLst (tCons (tLst (tCons (tC (.int 2)) (tCons (tUn (rU fun i => .int (-i)) (tC (.int 4))) (tCons (tC (.int 1)) tNil)))) (tCons (tLst (tCons (tC (.int 1)) (tCons (tUn (rU fun i => .int (-i)) (tC (.int 3))) (tCons (tC (.int 1)) tNil)))) (tCons (tLst (tCons (tOp (rI0 fun i j => .int (i - j)) (tC (.int 0)) (tVar 8)) (tCons (tC (.int 0)) (tCons (tC (.int 4)) tNil)))) (tCons (tLst (tCons (tC (.int 1)) (tCons (tC (.int 0)) (tCons (tVar 8) tNil)))) tNil))))) tNil))) (gName 9)) tNext)
  (tIfS (tTest (tOp (rNotInD K) (tCall (sp__law_upright K) [] E0 (tCons (tVar 9) tNil)) (tVar 4))) (tSeq (tDrop (tBM K "list" rAppend (tVar 4) (tCons (tCall (sp__law_upright K) [] E0 (tCons (tVar 9) tNil)) tNil)))
  (tDrop (tBM K "list" rAppend (tVar 3) (tCons (tTup (tCons (tCall (sp__law_upright K) [] E0 (tCons (tVar 9) tNil)) (tCons (tOp (rAddA K) (tC (.int 1)) (tCall (sp__law_pull K) [] E0 (tCons (tVar 0) (tCons (tVar 2) tNil)))) tNil))) tNil)))) tNext)))))))
  (tRet (tVar 3))))
theorem pure__law_roots_built (K : PySem.W.Frag) (vs : List V) (H : Hp) (Q : VK) (E : XK) (h : sp__law_roots_built K vs H Q E) : t__law_roots_built K { nx := fun _ H' => Q .non H', rt := Q } (L2.start N__law_roots_built vs) H := body_W h (by decide) fun B w ds hp => by
  obtain ⟨a, b, e, a1, a3, b1, b3⟩ := hp
  subst e
  unfold t__law_roots_built

  refine st_seq (st_parOO (en_lst (ea_nil ⟨by simp, fun l1 => en_lst (ea_nil ⟨by simp, fun l2 hne => ?_⟩)⟩)))
  refine st_seq (st_forR (ea_cons (ev_op (ev_int (ev_callW rfl (ea_cons (ev_var rfl (ea_nil ⟨⟨_, rfl, by omega, by omega⟩, fun d ⟨m', z, em, ed, z0, z1⟩ => ?_⟩))))))))
  simp only [List.cons.injEq, and_true, PyData.int.injEq] at em
  subst em
  subst ed
  refine ro_add (ea_nil ⟨_, rfl, by omega, by omega, fun i L2 Γ2 => ∃ (fs : List (List Int × Nat)) (s5 s6 s7 s8 s9 : Sl), L2 = [l2, l1] ∧ Γ2 = [.well w, .d (.int (a : Int)), .d (.int (b : Int)), .own l1 (fs.map facD), .own l2 ((fs.map (·.1)).map fun r => PyData.list (r.map .int)), s5, s6, s7, s8, s9] ∧ fs.length ≤ i ∧ (0 < i → 1 ≤ fs.length) ∧ (∀ p ∈ fs, Fac p.1 ∧ 1 ≤ p.2 ∧ p.2 ≤ b) ∧ fs.Pairwise (fun p q => p.1 ≠ q.1), ⟨[], _, _, _, _, _, rfl, rfl, Nat.le_refl _, fun z => absurd z (by decide), by simp, .nil⟩, ?_, ?_⟩)
  · rintro i L2 Γ2 hi ⟨fs, s5, s6, s7, s8, s9, rfl, rfl, lfs, l1f, hfs, hpw⟩
    have iz : i ≤ 2 := by omega
    refine st_seq (st_par (ea_cons (ev_callW rfl (ea_nil ⟨⟨trivial, rfl⟩, fun X ⟨x, ex, fx, x1, x2⟩ => ?_⟩))))
    subst ex
    refine ea_cons (ev_callW rfl (ea_cons (ev_int (ea_nil ⟨⟨5, rfl, by decide, by decide⟩, fun d ⟨m', way, em, ed, w0, w1⟩ => ?_⟩))))
    subst ed
    refine ea_nil ⟨_, _, rfl, ?_⟩
    refine st_seq (st_asg (ev_callW rfl ?_))
    walk_at "dd"
    refine ⟨⟨_, rfl, by simp, by simp⟩, fun d ⟨xs, ex, hd⟩ => ?_⟩
    cases ex
    obtain ⟨r, rfl, hr⟩ : ∃ r : Int, d = .int r ∧ r ∈ ([2, 3, 5, 6, 7] : List Int) := by
      have hd2 : d ∈ ([2, 3, 5, 6, 7] : List Int).map PyData.int := hd
      obtain ⟨r, h1, rfl⟩ := List.mem_map.mp hd2
      exact ⟨r, rfl, h1⟩
    obtain ⟨fr1, fr2, fr3⟩ := fp_root hr
    obtain ⟨ft1, ft2⟩ := fp_two
    have I : ∀ (u : List Int), FP u → [Sl.well w, .d (.int (a : Int)), .d (.int (b : Int)), .own l1 (fs.map facD), .own l2 ((fs.map (·.1)).map fun r => PyData.list (r.map .int)), .d (.int (i : Int)), .d (frD x), .d (.int way), .d (.int r), .d (.list (u.map .int))] = [Sl.well w, .d (.int (a : Int)), .d (.int (b : Int)), .own l1 (fs.map facD), .own l2 ((fs.map (·.1)).map fun r => PyData.list (r.map .int)), .d (.int (i : Int)), .d (frD x), .d (.int way), .d (.int r), .d (.list (u.map .int))] := fun u _ => rfl
    refine st_seq (st_asg (ev_lst (ea_cons (ev_op (ev_int (ev_op (ev_var rfl (ev_int (rok_ixsT (d := .int x.1) rfl (rok_i0 (ea_cons (ev_op (ev_var rfl (ev_int (rok_ixsT (d := .int x.2) rfl (ea_nil ⟨by simp, ?_⟩))))))))))))))))
    refine st_mid (fun L2 Γ2 => ∃ u : List Int, FP u ∧ L2 = [l2, l1] ∧ Γ2 = [Sl.well w, .d (.int (a : Int)), .d (.int (b : Int)), .own l1 (fs.map facD), .own l2 ((fs.map (·.1)).map fun r => PyData.list (r.map .int)), .d (.int (i : Int)), .d (frD x), .d (.int way), .d (.int r), .d (.list (u.map .int))]) (st_if (et_test (ev_op (ev_var rfl (ev_int (rok_eqI ⟨_, rfl, fun _ => ?_, fun _ => st_next ⟨[0 - x.1, x.2], fp_lin fx x1 x2, rfl, rfl⟩⟩)))))) ?_
    · exact st_asg (ev_lst (ea_cons (ev_op (ev_int (ev_var rfl (rok_i0 (ea_cons (ev_int (ea_cons (ev_int (ea_nil ⟨by simp, [0 - r, 0, 1], fr1, rfl, rfl⟩)))))))))))
    rintro L2 Γ2 ⟨u, hu, rfl, rfl⟩
    refine st_mid (fun L2 Γ2 => ∃ u : List Int, FP u ∧ L2 = [l2, l1] ∧ Γ2 = [Sl.well w, .d (.int (a : Int)), .d (.int (b : Int)), .own l1 (fs.map facD), .own l2 ((fs.map (·.1)).map fun r => PyData.list (r.map .int)), .d (.int (i : Int)), .d (frD x), .d (.int way), .d (.int r), .d (.list (u.map .int))]) (st_if (et_test (ev_op (ev_var rfl (ev_int (rok_eqI ⟨_, rfl, fun _ => ?_, fun _ => st_next ⟨u, hu, rfl, rfl⟩⟩)))))) ?_
    · refine st_asg (ev_callW rfl ?_)
      walk_at "dd"
      refine ⟨⟨_, rfl, by simp, by simp⟩, fun d ⟨xs, ex, hd⟩ => ?_⟩
      cases ex
      simp only [List.mem_cons, List.not_mem_nil, or_false] at hd
      rcases hd with rfl | rfl | rfl | rfl
      · exact ⟨[2, -4, 1], ft1, rfl, rfl⟩
      · exact ⟨[1, -3, 1], ft2, rfl, rfl⟩
      · exact ⟨[0 - r, 0, 4], fr2, rfl, rfl⟩
      · exact ⟨[1, 0, r], fr3, rfl, rfl⟩
    clear I hu u
    rintro L2 Γ2 ⟨u, hu, rfl, rfl⟩
    have up : u.length ≤ 400 ∧ n1 u < 2 ^ 13400 := ⟨by have := hu.l; omega, pow_up hu.b (by decide)⟩
    refine st_if (et_peek (i := 4) (l := l2) (L' := [l1]) (xs := (fs.map (·.1)).map fun r => PyData.list (r.map .int)) rfl (by simpa using Ne.symm hne) (et_test (ev_op (ev_callP (ea_cons (ev_var rfl (ea_nil ⟨⟨true, u, rfl, up.1, up.2, hu.n, hu.t⟩, fun d ⟨_, v, e, ed⟩ => ?_⟩)))))))
    obtain rfl : u = v := lt_inj (b := true) e
    subst ed
    refine ev_var rfl (rok_notInD (int_shaped _).2 (lis_shaped _).2 (int_shaped _).1 (lis_shaped _).1 ⟨_, rfl, fun hb => ?_, fun hb => ?_⟩)
    · have hb : (!((fs.map (·.1)).map fun r => PyData.list (r.map .int)).any fun z => PyData.eqv z (.list ((rdc u).map .int))) = true := hb
      rw [lis_any] at hb
      have nin : rdc u ∉ fs.map (·.1) := by simpa using hb
      refine st_seq (st_append rfl (by rw [List.length_map, List.length_map]; omega) (ev_callP (ea_cons (ev_var rfl (ea_nil ⟨⟨true, u, rfl, up.1, up.2, hu.n, hu.t⟩, fun d ⟨_, v, e, ed⟩ => ?_⟩)))))
      obtain rfl : u = v := lt_inj (b := true) e
      subst ed
      refine st_append rfl (by rw [List.length_map]; omega) (ev_tup (ea_cons (ev_callP (ea_cons (ev_var rfl (ea_nil ⟨⟨true, u, rfl, up.1, up.2, hu.n, hu.t⟩, fun d ⟨_, v, e, ed⟩ => ?_⟩))))))
      obtain rfl : u = v := lt_inj (b := true) e
      subst ed
      refine ea_cons (ev_op (ev_int (ev_callW rfl (ea_cons (ev_var rfl (ea_nil ⟨⟨_, rfl, by omega, by omega⟩, fun d ⟨m', y, em, ed, y0, y1⟩ => ?_⟩))))))
      simp only [List.cons.injEq, and_true, PyData.int.injEq] at em
      subst em
      subst ed
      obtain ⟨k, hk⟩ : ∃ k : Nat, (1 : Int) + y = (k : Int) := ⟨(1 + y).toNat, by omega⟩
      refine ro_add (ea_nil ⟨by simp, fs ++ [(rdc u, k)], .d (.int (i : Int)), .d (frD x), .d (.int way), .d (.int r), .d (.list (u.map .int)), rfl, ?_, by rw [List.length_append]; show fs.length + 1 ≤ i + 1; omega, fun _ => by rw [List.length_append]; show 1 ≤ fs.length + 1; omega, fun p hp => ?_, ?_⟩)
      · rw [hk, List.map_append, List.map_append, List.map_append]
        rfl
      · rcases List.mem_append.mp hp with q | q
        · exact hfs p q
        · rw [List.mem_singleton.mp q]
          exact ⟨hu.f, by show 1 ≤ k; omega, by show k ≤ b; omega⟩
      · rw [List.pairwise_append]
        refine ⟨hpw, List.pairwise_singleton _ _, fun p hp q hq => ?_⟩
        rw [List.mem_singleton.mp hq]
        exact fun z => nin (List.mem_map.mpr ⟨p, hp, z⟩)
    · have hb : (!((fs.map (·.1)).map fun r => PyData.list (r.map .int)).any fun z => PyData.eqv z (.list ((rdc u).map .int))) = false := hb
      rw [lis_any] at hb
      have inn : rdc u ∈ fs.map (·.1) := by simpa using hb
      refine st_next ⟨fs, _, _, _, _, _, rfl, rfl, by omega, fun _ => ?_, hfs, hpw⟩
      obtain ⟨p, hp, _⟩ := List.mem_map.mp inn
      exact List.length_pos_of_mem hp
  · rintro L2 Γ2 ⟨fs, s5, s6, s7, s8, s9, rfl, rfl, lfs, l1f, hfs, hpw⟩
    refine st_freeze 4 rfl (by simpa using Ne.symm hne) (st_freeze 3 rfl (by simp) (st_ret (ev_var rfl ⟨a, b, fs, rfl, rfl, l1f (by omega), by omega, hfs, hpw⟩)))
theorem ok__law_roots_built (T : Tx K mg) : FnOk P w K mg base CX0 5 T.a__law_roots_built T.d__law_roots_built p__law_roots_built (sp__law_roots_built K) := by
  refine T.F__law_roots_built.ok sc__law_roots_built (fun vs H Q E h => len__law_roots_built K vs H Q E h) (fun cdv A outer s H vs Q E hr h => ?_)
  have hu := hr.units
  have hu5 := Nat.lt_of_le_of_lt (Nat.le_trans (Nat.add_le_add_left (show 65 ≤ 200 by decide) _) (Nat.add_le_add_right (Nat.le_add_right _ _) 200)) hr.un
  exact ⟨t__law_roots_built K, (pss_cons (ps_par (by rfl) sc__law_roots_built.nd rfl rfl (by decide) rfl rfl (pa_cons (pe_lst pa_nil) (pa_cons (pe_lst pa_nil) pa_nil)) (by rfl))
  (pss_cons (ps_for PassesOwn.never rfl (pi_range1 (by rfl) T.n_range (pa_cons (pe_op op_addA pe_int (pe_call (ok__law_pull T) (hr.mono (by decide)) rfl T.g__law_pull T.F__law_pull.kp (b__law_pull T) .nil pass0 (pa_cons (pv 0) (pa_cons (pv 1) pa_nil)))) pa_nil)) (pg_name (i := 5) sc__law_roots_built.nd rfl (Or.inl rfl)) (pss_cons (ps_par (by rfl) sc__law_roots_built.nd rfl rfl (by decide) rfl rfl (pa_cons (pe_call (ok__law_any_fraction T) (hr.mono (by decide)) rfl T.g__law_any_fraction T.F__law_any_fraction.kp (b__law_any_fraction T) .nil pass0 (pa_cons (pv 0) pa_nil)) (pa_cons (pe_call (ok__law_pull T) (hr.mono (by decide)) rfl T.g__law_pull T.F__law_pull.kp (b__law_pull T) .nil pass0 (pa_cons (pv 0) (pa_cons pe_int pa_nil))) pa_nil)) (by rfl))
  (pss_cons (ps_set (i := 8) sc__law_roots_built.nd rfl (Or.inl rfl) (pe_call (ok__law_one T) (hr.mono (by decide)) rfl T.g__law_one T.F__law_one.kp (b__law_one T) .nil pass0 (pa_cons (pv 0) (pa_cons (pe_lst (pa_cons pe_int (pa_cons pe_int (pa_cons pe_int (pa_cons pe_int (pa_cons pe_int pa_nil)))))) pa_nil))))
  (pss_cons (ps_set (i := 9) sc__law_roots_built.nd rfl (Or.inl rfl) (pe_lst (pa_cons (pe_op op_sub pe_int (pe_ix ix_seq (pv 6) pe_int (fun _ _ => rfl))) (pa_cons (pe_ix ix_seq (pv 6) pe_int (fun _ _ => rfl)) pa_nil))))
  (pss_cons (ps_if (pt_cmpR op_eq (pv 7) pe_int (nomark _)) (pss_one (ps_set (i := 9) sc__law_roots_built.nd rfl (Or.inl rfl) (pe_lst (pa_cons (pe_op op_sub pe_int (pv 8)) (pa_cons pe_int (pa_cons pe_int pa_nil)))))) pss_nil)
  (pss_cons (ps_if (pt_cmpR op_eq (pv 7) pe_int (nomark _)) (pss_one (ps_set (i := 9) sc__law_roots_built.nd rfl (Or.inl rfl) (pe_call (ok__law_one T) (hr.mono (by decide)) rfl T.g__law_one T.F__law_one.kp (b__law_one T) .nil pass0 (pa_cons (pv 0) (pa_cons (pe_lst (pa_cons (pe_lst (pa_cons pe_int (pa_cons (pe_un un_neg pe_int) (pa_cons pe_int pa_nil)))) (pa_cons (pe_lst (pa_cons pe_int (pa_cons (pe_un un_neg pe_int) (pa_cons pe_int pa_nil)))) (pa_cons (pe_lst (pa_cons (pe_op op_sub pe_int (pv 8)) (pa_cons pe_int (pa_cons pe_int pa_nil)))) (pa_cons (pe_lst (pa_cons pe_int (pa_cons pe_int (pa_cons (pv 8) pa_nil)))) pa_nil))))) pa_nil))))) pss_nil)
  (pss_one (ps_if (pt_cmpR (op_notInD hu5) (pe_call (ok__law_upright T) (hr.mono (by decide)) rfl T.g__law_upright T.F__law_upright.kp (b__law_upright T) .nil pass0 (pa_cons (pv 9) pa_nil)) (pv 4) (by rfl)) (pss_cons (ps_expr (pe_bm PySem.F.plainAttrs_list PySem.F.slot_list_append PySem.F.type_list_append mt_append (pv 4) (pa_cons (pe_call (ok__law_upright T) (hr.mono (by decide)) rfl T.g__law_upright T.F__law_upright.kp (b__law_upright T) .nil pass0 (pa_cons (pv 9) pa_nil)) pa_nil)))
  (pss_one (ps_expr (pe_bm PySem.F.plainAttrs_list PySem.F.slot_list_append PySem.F.type_list_append mt_append (pv 3) (pa_cons (pe_tup (pa_cons (pe_call (ok__law_upright T) (hr.mono (by decide)) rfl T.g__law_upright T.F__law_upright.kp (b__law_upright T) .nil pass0 (pa_cons (pv 9) pa_nil)) (pa_cons (pe_op op_addA pe_int (pe_call (ok__law_pull T) (hr.mono (by decide)) rfl T.g__law_pull T.F__law_pull.kp (b__law_pull T) .nil pass0 (pa_cons (pv 0) (pa_cons (pv 2) pa_nil)))) pa_nil))) pa_nil))))) pss_nil))))))))
  (pss_one (ps_ret (pv 3))))), pure__law_roots_built K vs H Q E h⟩
/-! ### _law_built -/

def pre__law_built : List PyData → Prop := fun ds => ∃ (fs : List (List Int × Nat)) (c : Int), ds = [.list (fs.map facD), .int c] ∧ fs.length ≤ 4 ∧ c ≠ 0 ∧ c.natAbs < 2 ^ 10 ∧ ∀ p ∈ fs, Fac p.1 ∧ 1 ≤ p.2 ∧ p.2 ≤ 3
def post__law_built : List PyData → PyData → Prop := fun ds d => ∃ (fs : List (List Int × Nat)) (c : Int) (u : List Int), ds = [.list (fs.map facD), .int c] ∧ d = .list (u.map .int) ∧ u ≠ [] ∧ u.getLast? ≠ some 0 ∧ ∀ x, pI u x = (c : Rat) * fV fs x
abbrev sp__law_built (K : PySem.W.Frag) : Sp := SpP K pre__law_built post__law_built
theorem len__law_built (K : PySem.W.Frag) (vs : List V) (H : Hp) (Q : VK) (E : XK) (h : sp__law_built K vs H Q E) : vs.length = p__law_built.length := len_P (n := 2) h fun ds hp => by
  obtain ⟨fs, c, e, n3, c0, cb, hfs⟩ := hp
  rw [e]; rfl
def t__law_built (K : PySem.W.Frag) : TS :=
  (tSeq (tAsg (tLst (tCons (tVar 1) tNil)) (gName 2))
  (tSeq (tFor (iList K (tVar 0)) (gTup K 2 (gCons (gName 3) (gCons (gName 4) gNil))) (tFor (iRng1 (tCons (tVar 4) tNil)) (gName 5) (tAsg (tCall (sp__law_product K) [] E0 (tCons (tVar 2) (tCons (tVar 3) tNil))) (gName 2))))
  (tRet (tVar 2))))
theorem pure__law_built (K : PySem.W.Frag) (vs : List V) (H : Hp) (Q : VK) (E : XK) (h : sp__law_built K vs H Q E) : t__law_built K { nx := fun _ H' => Q .non H', rt := Q } (L2.start N__law_built vs) H := body_P h fun B ds hW hp => by
  obtain ⟨fs, c, e, n3, c0, cb, hfs⟩ := hp
  subst e
  unfold t__law_built

  refine st_seq (st_asg (ev_lst (ea_cons (ev_var rfl (ea_nil ⟨by simp, ?_⟩)))))
  have ed0 : fs.map facD = (fs.map fun p => [PyData.list (p.1.map .int), .int (p.2 : Int)]).map PyData.tuple := by
    rw [List.map_map]
    rfl
  refine st_seq (st_forLG (ev_var rfl ⟨fs.map fun p => [PyData.list (p.1.map .int), .int (p.2 : Int)], congrArg PyData.list ed0, fun d hd => ?_, fun i L2 Γ2 => ∃ (u : List Int) (s3 s4 s5 : Sl), L2 = [] ∧ Γ2 = [.d (.list (fs.map facD)), .d (.int c), .d (.list (u.map .int)), s3, s4, s5] ∧ u ≠ [] ∧ u.getLast? ≠ some 0 ∧ u.length ≤ 9 * i + 1 ∧ n1 u ≤ c.natAbs * 2 ^ (21 * i) ∧ ∀ x, pI u x = (c : Rat) * fV (fs.take i) x, ⟨[c], _, _, _, rfl, rfl, by simp, ?_, Nat.le_refl _, ?_, fun x => ?_⟩, ?_, ?_⟩))
  · obtain ⟨p, _, rfl⟩ := List.mem_map.mp hd
    rfl
  · intro z
    exact c0 (by simpa using z)
  · show c.natAbs + 0 ≤ c.natAbs * 1
    omega
  · rw [pI_one, List.take_zero]
    show (c : Rat) = c * 1
    grind
  · rintro i d' L2 Γ2 g hi ⟨u, s3, s4, s5, rfl, rfl, un, ut, ul, ub, uv⟩
    obtain ⟨p, hp, rfl⟩ : ∃ p, fs[i]? = some p ∧ d' = [PyData.list (p.1.map .int), .int (p.2 : Int)] := map_getG hi
    have il : i < fs.length := (List.getElem?_eq_some_iff.mp hp).1
    obtain ⟨pf, p1, p3⟩ := hfs p (List.mem_of_getElem? hp)
    obtain ⟨pg, pb, pl2, pl3⟩ := pf.gd
    refine tg_cons (tg_cons (tg_nil ?_))
    refine st_forR (ea_cons (ev_var rfl (ea_nil ⟨_, rfl, by omega, by omega, fun j L3 Γ3 => ∃ (u : List Int) (s5 : Sl), L3 = [] ∧ Γ3 = [.d (.list (fs.map facD)), .d (.int c), .d (.list (u.map .int)), .d (.list (p.1.map .int)), .d (.int (p.2 : Int)), s5] ∧ u ≠ [] ∧ u.getLast? ≠ some 0 ∧ u.length ≤ 9 * i + 3 * j + 1 ∧ n1 u ≤ c.natAbs * 2 ^ (21 * i + 7 * j) ∧ ∀ x, pI u x = (c : Rat) * fV (fs.take i) x * pI p.1 x ^ j, ⟨u, _, rfl, rfl, un, ut, ul, ub, fun x => by rw [uv, Rat.pow_zero]; grind⟩, ?_, ?_⟩)))
    · rintro j L3 Γ3 hj ⟨u, s5, rfl, rfl, un, ut, ul, ub, uv⟩
      rw [Int.toNat_natCast] at hj
      have ub2 : n1 u < 2 ^ 4000 := by
        have h1 : c.natAbs * 2 ^ (21 * i + 7 * j) ≤ 2 ^ 10 * 2 ^ 84 := Nat.mul_le_mul (Nat.le_of_lt cb) (Nat.pow_le_pow_right (by decide) (by omega))
        have h2 : (2 : Nat) ^ 10 * 2 ^ 84 < 2 ^ 100 := by decide
        exact pow_up (Nat.lt_of_le_of_lt (Nat.le_trans ub h1) h2) (by decide)
      refine st_asg (ev_callP (ea_cons (ev_var rfl (ea_cons (ev_var rfl (ea_nil ⟨⟨u, p.1, rfl, by omega, by omega, ub2, pow_up pb (by decide)⟩, fun d ⟨u', v', t, e, ed, tt, tl, tn, tv⟩ => ?_⟩))))))
      obtain ⟨rfl, rfl⟩ := li2 e
      subst ed
      refine ⟨t, _, rfl, rfl, mul_nn un ut pg tv, tt, by omega, ?_, fun x => ?_⟩
      · rw [show 21 * i + 7 * (j + 1) = 21 * i + 7 * j + 7 by omega, Nat.pow_add, ← Nat.mul_assoc]
        exact Nat.le_trans tn (Nat.mul_le_mul ub (Nat.le_of_lt pb))
      · rw [tv, uv, Rat.pow_succ]
        grind
    · rintro L3 Γ3 ⟨u, s5, rfl, rfl, un, ut, ul, ub, uv⟩
      rw [Int.toNat_natCast] at ul ub uv
      refine ⟨u, _, _, _, rfl, rfl, un, ut, by omega, Nat.le_trans ub (Nat.mul_le_mul_left _ (Nat.pow_le_pow_right (by decide) (by omega))), fun x => ?_⟩
      rw [uv, List.take_add_one, hp]
      show _ = (c : Rat) * fV (fs.take i ++ [p]) x
      rw [fV_snoc]
      grind
  · rintro L2 Γ2 ⟨u, s3, s4, s5, rfl, rfl, un, ut, ul, ub, uv⟩
    rw [List.length_map, List.take_length] at uv
    exact st_ret (ev_var rfl ⟨fs, c, u, rfl, rfl, un, ut, uv⟩)
theorem ok__law_built (T : Tx K mg) : FnOk P w K mg base CX0 3 T.a__law_built T.d__law_built p__law_built (sp__law_built K) := by
  refine T.F__law_built.ok sc__law_built (fun vs H Q E h => len__law_built K vs H Q E h) (fun cdv A outer s H vs Q E hr h => ?_)
  exact ⟨t__law_built K, (pss_cons (ps_set (i := 2) sc__law_built.nd rfl (Or.inl rfl) (pe_lst (pa_cons (pv 1) pa_nil)))
  (pss_cons (ps_for PassesOwn.never rfl (pi_list (pv 0)) (pg_tup (by rfl) (pgs_cons (pg_name (i := 3) sc__law_built.nd rfl (Or.inl rfl)) (pgs_cons (pg_name (i := 4) sc__law_built.nd rfl (Or.inl rfl)) pgs_nil))) (pss_one (ps_for PassesOwn.never rfl (pi_range1 (by rfl) T.n_range (pa_cons (pv 4) pa_nil)) (pg_name (i := 5) sc__law_built.nd rfl (Or.inl rfl)) (pss_one (ps_set (i := 2) sc__law_built.nd rfl (Or.inl rfl) (pe_call (ok__law_product T) (hr.mono (by decide)) rfl T.g__law_product T.F__law_product.kp (b__law_product T) .nil pass0 (pa_cons (pv 2) (pa_cons (pv 3) pa_nil))))))))
  (pss_one (ps_ret (pv 2))))), pure__law_built K vs H Q E h⟩
/-! ### _law_value -/

def pre__law_value : List PyData → Prop := fun ds => ∃ (u : List Int) (x : Fr), ds = [rowD u, frD x] ∧ u.length ≤ 30 ∧ n1 u < 2 ^ 100 ∧ u.getLast? ≠ some 0 ∧ FOk x ∧ x.1.natAbs < 2 ^ 6 ∧ x.2 < 2 ^ 6
def post__law_value : List PyData → PyData → Prop := fun ds d => ∃ (u : List Int) (x r : Fr), ds = [rowD u, frD x] ∧ d = frD r ∧ FOk r ∧ val r = pI u (val x)
abbrev sp__law_value (K : PySem.W.Frag) : Sp := SpP K pre__law_value post__law_value
theorem len__law_value (K : PySem.W.Frag) (vs : List V) (H : Hp) (Q : VK) (E : XK) (h : sp__law_value K vs H Q E) : vs.length = p__law_value.length := len_P (n := 2) h fun ds hp => by
  obtain ⟨u, x, e, hl, nu, tu, fx, x1, x2⟩ := hp
  rw [e]; rfl
def t__law_value (K : PySem.W.Frag) : TS :=
  (tSeq (tAsg (tTup (tCons (tTup (tCons (tC (.int 0)) (tCons (tC (.int 1)) tNil))) (tCons (tTup (tCons (tC (.int 1)) (tCons (tC (.int 1)) tNil))) tNil))) (gTup K 2 (gCons (gName 2) (gCons (gName 3) gNil))))
  (tSeq (tFor (iTup K (tVar 0)) (gName 4) (tPar 2 3 (tCons (tCall (sp__law_add K) [] E0 (tCons (tVar 2) (tCons (tCall (sp__law_by K) [] E0 (tCons (tTup (tCons (tVar 4) (tCons (tC (.int 1)) tNil))) (tCons (tVar 3) tNil))) tNil))) (tCons (tCall (sp__law_by K) [] E0 (tCons (tVar 3) (tCons (tVar 1) tNil))) tNil))))
  (tRet (tVar 2))))
theorem pure__law_value (K : PySem.W.Frag) (vs : List V) (H : Hp) (Q : VK) (E : XK) (h : sp__law_value K vs H Q E) : t__law_value K { nx := fun _ H' => Q .non H', rt := Q } (L2.start N__law_value vs) H := body_P h fun B ds hW hp => by
  obtain ⟨u, x, e, hl, nu, tu, fx, x1, x2⟩ := hp
  subst e
  unfold t__law_value

  have x0 := fx.1
  have sm : ∀ {r : Fr} {w : List Int}, FOk r → val r = pI w (val x) → w.length ≤ 30 → n1 w < 2 ^ 100 → Sm r := fun {r w} f v l n => by
    obtain ⟨a, b⟩ := val_bd fx x1 x2 f v l n
    exact ⟨f.1, pow_up a (by decide), pow_up b (by decide)⟩
  have mono : ∀ (z : Int) (i : Nat), pI (sft i [z]) (val x) = val x ^ i * (z : Rat) := fun z i => by rw [sft_pI, pI_one]
  have z1 : ((1 : Int) : Rat) = 1 := rfl
  have smx : Sm x := ⟨fx.1, pow_up x1 (by decide), pow_up (m := 6) (by have : (2 : Int) ^ 6 = 64 := rfl; have : (2 : Nat) ^ 6 = 64 := rfl; omega) (by decide)⟩
  refine st_seq (st_unpack (ev_tup (ea_cons (ev_tup (ea_cons (ev_int (ea_cons (ev_int (ea_nil ⟨by simp, ?_⟩)))))))))
  refine ea_cons (ev_tup (ea_cons (ev_int (ea_cons (ev_int (ea_nil ⟨by simp, ea_nil ⟨by simp, _, rfl, rfl, tg_cons (tg_cons (tg_nil ?_))⟩⟩))))))
  refine st_seq (st_forT (ev_var rfl ⟨u.map .int, rfl, fun i L2 Γ2 => ∃ (f p : Fr) (s : Sl), L2 = [] ∧ Γ2 = [.d (rowD u), .d (frD x), .d (frD f), .d (frD p), s] ∧ FOk f ∧ val f = pI (u.take i) (val x) ∧ FOk p ∧ val p = val x ^ i, ⟨(0, 1), (1, 1), _, rfl, rfl, fok_zero, ?_, fok_one, ?_⟩, ?_, ?_⟩))
  · rw [List.take_zero, pI_nil]
    exact val_zero
  · rw [Rat.pow_zero]
    decide +kernel
  · rintro i d' L2 Γ2 g hi ⟨f, p, s, rfl, rfl, ff, fv, pf, pv⟩
    obtain ⟨z, hz, rfl⟩ : ∃ z, u[i]? = some z ∧ d' = .int z := map_get hi
    have il : i < u.length := (List.getElem?_eq_some_iff.mp hz).1
    have bz : z.natAbs < 2 ^ 100 := Nat.lt_of_le_of_lt (n1_mem (List.mem_of_getElem? hz)) nu
    have fz : FOk (z, 1) := ⟨by show (0 : Int) < 1; decide, Nat.gcd_one_right _⟩
    have vz : val (z, 1) = (z : Rat) := by
      show (z : Rat) / ((1 : Int) : Rat) = _
      rw [z1]
      grind
    have smp : Sm p := sm (w := sft i [1]) pf (by rw [pv, mono, z1, Rat.mul_one]) (by rw [sft_len]; show i + 1 ≤ 30; omega) (by rw [sft_n1]; show 1 < 2 ^ 100; exact Nat.one_lt_two_pow (by decide))
    have smf : Sm f := sm (w := u.take i) ff fv (by rw [List.length_take]; omega) (Nat.lt_of_le_of_lt (n1_takele u i) nu)
    refine st_par (ea_cons (ev_callP (ea_cons (ev_var rfl (ea_cons (ev_callP (ea_cons (ev_tup (ea_cons (ev_var rfl (ea_cons (ev_int (ea_nil ⟨by simp, ?_⟩)))))))))))))
    refine ea_cons (ev_var rfl (ea_nil ⟨⟨(z, 1), p, rfl, ⟨by show (0 : Int) < 1; decide, pow_up bz (by decide), by show (1 : Int).natAbs < _; decide +kernel⟩, smp⟩, fun d ⟨a, b, r, e, ed, fr, vr⟩ => ?_⟩))
    obtain ⟨rfl, rfl⟩ := frD2_inj (x := (z, 1)) e
    subst ed
    rw [vz, pv] at vr
    have smr : Sm r := sm (w := sft i [z]) fr (by rw [vr, mono, Rat.mul_comm]) (by rw [sft_len]; show i + 1 ≤ 30; omega) (by rw [sft_n1]; show z.natAbs + 0 < 2 ^ 100; omega)
    refine ea_nil ⟨⟨f, r, rfl, smf, smr⟩, fun d ⟨a, b, r2, e, ed, fr2, vr2⟩ => ?_⟩
    obtain ⟨rfl, rfl⟩ := frD2_inj e
    subst ed
    refine ea_cons (ev_callP (ea_cons (ev_var rfl (ea_cons (ev_var rfl (ea_nil ⟨⟨p, x, rfl, smp, smx⟩, fun d ⟨a, b, r3, e, ed, fr3, vr3⟩ => ?_⟩))))))
    obtain ⟨rfl, rfl⟩ := frD2_inj e
    subst ed
    refine ea_nil ⟨_, _, rfl, r2, r3, _, rfl, rfl, fr2, ?_, fr3, ?_⟩
    · have tk : pI (u.take (i + 1)) (val x) = pI (u.take i) (val x) + (z : Rat) * val x ^ i := by
        have := pe_take (val x) (ri u) i (by unfold ri; rw [List.length_map]; exact il)
        rw [ri_get, List.getD_eq_getElem?_getD, hz] at this
        unfold pI
        unfold ri at this ⊢
        rw [List.map_take, List.map_take]
        exact this
      rw [vr2, fv, vr, tk]
    · rw [vr3, pv, Rat.pow_succ]
  · rintro L2 Γ2 ⟨f, p, s, rfl, rfl, ff, fv, pf, pv⟩
    rw [List.length_map, List.take_length] at fv
    exact st_ret (ev_var rfl ⟨u, x, f, rfl, rfl, ff, fv⟩)
theorem ok__law_value (T : Tx K mg) : FnOk P w K mg base CX0 4 T.a__law_value T.d__law_value p__law_value (sp__law_value K) := by
  refine T.F__law_value.ok sc__law_value (fun vs H Q E h => len__law_value K vs H Q E h) (fun cdv A outer s H vs Q E hr h => ?_)
  exact ⟨t__law_value K, (pss_cons (ps_asg (pe_tup (pa_cons (pe_tup (pa_cons pe_int (pa_cons pe_int pa_nil))) (pa_cons (pe_tup (pa_cons pe_int (pa_cons pe_int pa_nil))) pa_nil))) (pg_tup (by rfl) (pgs_cons (pg_name (i := 2) sc__law_value.nd rfl (Or.inl rfl)) (pgs_cons (pg_name (i := 3) sc__law_value.nd rfl (Or.inl rfl)) pgs_nil))))
  (pss_cons (ps_for PassesOwn.never rfl (pi_tup (pv 0)) (pg_name (i := 4) sc__law_value.nd rfl (Or.inl rfl)) (pss_one (ps_par (by rfl) sc__law_value.nd rfl rfl (by decide) rfl rfl (pa_cons (pe_call (ok__law_add T) (hr.mono (by decide)) rfl T.g__law_add T.F__law_add.kp (b__law_add T) .nil pass0 (pa_cons (pv 2) (pa_cons (pe_call (ok__law_by T) (hr.mono (by decide)) rfl T.g__law_by T.F__law_by.kp (b__law_by T) .nil pass0 (pa_cons (pe_tup (pa_cons (pv 4) (pa_cons pe_int pa_nil))) (pa_cons (pv 3) pa_nil))) pa_nil))) (pa_cons (pe_call (ok__law_by T) (hr.mono (by decide)) rfl T.g__law_by T.F__law_by.kp (b__law_by T) .nil pass0 (pa_cons (pv 3) (pa_cons (pv 1) pa_nil))) pa_nil)) (by rfl))))
  (pss_one (ps_ret (pv 2))))), pure__law_value K vs H Q E h⟩
/-! ### _law_bent -/
theorem bent_app (u : List Int) (x : PyData) (h : isWholeD x = false ∨ x = .int 0) : isPolyD (.tuple (u.map .int ++ [x])) = false := by
  show ((u.map PyData.int ++ [x]).all isWholeD && ((u.map PyData.int ++ [x]).isEmpty || (match (u.map PyData.int ++ [x]).getLast? with | some (.int x) => !decide (x = 0) | _ => false))) = false
  rcases h with h | rfl
  · rw [List.all_append, List.all_cons, h]
    simp
  · rw [List.getLast?_concat]
    simp

def pre__law_bent : List PyData → Prop := fun ds => ∃ u : List Int, ds = [rowD u] ∧ u.length ≤ 30
def post__law_bent : List PyData → PyData → Prop := fun ds d => isPolyD d = false ∧ ∀ es, d = .tuple es → es.length ≤ 1000
abbrev sp__law_bent (K : PySem.W.Frag) : Sp := SpW K pre__law_bent post__law_bent
theorem len__law_bent (K : PySem.W.Frag) (vs : List V) (H : Hp) (Q : VK) (E : XK) (h : sp__law_bent K vs H Q E) : vs.length = p__law_bent.length := len_W (n := 1) h fun ds hp => by
  obtain ⟨u, e, hl⟩ := hp
  rw [e]; rfl
def t__law_bent (K : PySem.W.Frag) : TS :=
  (tSeq (tAsg (tLst (tCons (tCB (rListQ K) (tCons (tVar 1) tNil)) (tCons (tOp (rAddA K) (tVar 1) (tTup (tCons (tC (.int 0)) tNil))) (tCons (tOp (rAddA K) (tVar 1) (tTup (tCons (tC (.bl true)) tNil))) (tCons (tOp (rAddA K) (tVar 1) (tTup (tCons (tC .non) tNil))) (tCons (tOp (rAddA K) (tVar 1) (tTup (tCons (tTup (tCons (tC (.int 1)) (tCons (tC (.int 1)) tNil))) tNil))) (tCons (tTup (tCons (tC (.int 0)) tNil)) (tCons (tC .non) (tCons (tC (.int 5)) (tCons (tC (.str ("row" : Str))) (tCons tDNewK (tCons (tTup (tCons (tTup (tCons (tC (.int 1)) tNil)) tNil)) (tCons (tOp (rAddA K) (tVar 1) (tTup (tCons (tC (.str ("1" : Str))) tNil))) tNil))))))))))))) (gName 2))
  (tRet (tCall (sp__law_one K) [] E0 (tCons (tVar 0) (tCons (tVar 2) tNil)))))
theorem pure__law_bent (K : PySem.W.Frag) (vs : List V) (H : Hp) (Q : VK) (E : XK) (h : sp__law_bent K vs H Q E) : t__law_bent K { nx := fun _ H' => Q .non H', rt := Q } (L2.start N__law_bent vs) H := body_W h (by decide) fun B w ds hp => by
  obtain ⟨u, e, hl⟩ := hp
  subst e
  unfold t__law_bent

  have ll : ∀ x : PyData, (u.map PyData.int).length + [x].length ≤ 1000000 := fun x => by
    rw [List.length_map]
    show u.length + 1 ≤ 1000000
    omega
  have q : ∀ x : PyData, isWholeD x = false ∨ x = .int 0 → isPolyD (.tuple (u.map .int ++ [x])) = false ∧ ∀ es, PyData.tuple (u.map .int ++ [x]) = .tuple es → es.length ≤ 1000 := fun x h => ⟨bent_app u x h, fun es e => by
    rw [← PyData.tuple.inj e, List.length_append, List.length_map]
    show u.length + 1 ≤ 1000
    omega⟩
  refine st_seq (st_asg (ev_lst (ea_cons (ev_new (en_listQ (ev_var rfl ⟨_, .inl rfl, ?_⟩))))))
  refine ea_cons (ev_op (ev_var rfl (ev_tup (ea_cons (ev_int (ea_nil ⟨by simp, ro_catT (ll _) ?_⟩))))))
  refine ea_cons (ev_op (ev_var rfl (ev_tup (ea_cons (ev_bl (ea_nil ⟨by simp, ro_catT (ll _) ?_⟩))))))
  refine ea_cons (ev_op (ev_var rfl (ev_tup (ea_cons (ev_non (ea_nil ⟨by simp, ro_catT (ll _) ?_⟩))))))
  refine ea_cons (ev_op (ev_var rfl (ev_tup (ea_cons (ev_tup (ea_cons (ev_int (ea_cons (ev_int (ea_nil ⟨by simp, ea_nil ⟨by simp, ro_catT (ll _) ?_⟩⟩))))))))))
  refine ea_cons (ev_tup (ea_cons (ev_int (ea_nil ⟨by simp, ?_⟩))))
  refine ea_cons (ev_non ?_)
  refine ea_cons (ev_int ?_)
  refine ea_cons (ev_str ?_)
  refine ea_cons (ev_dictD ?_)
  refine ea_cons (ev_tup (ea_cons (ev_tup (ea_cons (ev_int (ea_nil ⟨by simp, ea_nil ⟨by simp, ?_⟩⟩))))))
  refine ea_cons (ev_op (ev_var rfl (ev_tup (ea_cons (ev_str (ea_nil ⟨by simp, ro_catT (ll _) ?_⟩))))))
  refine ea_nil ⟨by simp, ?_⟩
  refine st_ret (ev_callW rfl (ea_cons (ev_var rfl (ea_nil ⟨⟨_, rfl, by simp, by simp⟩, fun d ⟨xs, ex, hd⟩ => ?_⟩))))
  cases ex
  simp only [List.mem_cons, List.not_mem_nil, or_false] at hd
  rcases hd with rfl | rfl | rfl | rfl | rfl | rfl | rfl | rfl | rfl | rfl | rfl | rfl
  · exact ⟨rfl, fun es e => by cases e⟩
  · exact q _ (.inr rfl)
  · exact q _ (.inl rfl)
  · exact q _ (.inl rfl)
  · exact q _ (.inl rfl)
  · exact ⟨rfl, fun es e => by cases e; decide⟩
  · exact ⟨rfl, fun es e => by cases e⟩
  · exact ⟨rfl, fun es e => by cases e⟩
  · exact ⟨rfl, fun es e => by cases e⟩
  · exact ⟨rfl, fun es e => by cases e⟩
  · exact ⟨rfl, fun es e => by cases e; decide⟩
  · exact q _ (.inl rfl)
theorem ok__law_bent (T : Tx K mg) : FnOk P w K mg base CX0 3 T.a__law_bent T.d__law_bent p__law_bent (sp__law_bent K) := by
  refine T.F__law_bent.ok sc__law_bent (fun vs H Q E h => len__law_bent K vs H Q E h) (fun cdv A outer s H vs Q E hr h => ?_)
  exact ⟨t__law_bent K, (pss_cons (ps_set (i := 2) sc__law_bent.nd rfl (Or.inl rfl) (pe_lst (pa_cons (pe_callTy call_list_of (by rfl) T.n_list (by decide +kernel) (pa_cons (pv 1) pa_nil)) (pa_cons (pe_op op_addA (pv 1) (pe_tup (pa_cons pe_int pa_nil))) (pa_cons (pe_op op_addA (pv 1) (pe_tup (pa_cons pe_bl pa_nil))) (pa_cons (pe_op op_addA (pv 1) (pe_tup (pa_cons pe_non pa_nil))) (pa_cons (pe_op op_addA (pv 1) (pe_tup (pa_cons (pe_tup (pa_cons pe_int (pa_cons pe_int pa_nil))) pa_nil))) (pa_cons (pe_tup (pa_cons pe_int pa_nil)) (pa_cons pe_non (pa_cons pe_int (pa_cons pe_str (pa_cons pe_dnewK (pa_cons (pe_tup (pa_cons (pe_tup (pa_cons pe_int pa_nil)) pa_nil)) (pa_cons (pe_op op_addA (pv 1) (pe_tup (pa_cons pe_str pa_nil))) pa_nil))))))))))))))
  (pss_one (ps_ret (pe_call (ok__law_one T) (hr.mono (by decide)) rfl T.g__law_one T.F__law_one.kp (b__law_one T) .nil pass0 (pa_cons (pv 0) (pa_cons (pv 2) pa_nil)))))), pure__law_bent K vs H Q E h⟩
/-! ### _law_right -/
theorem nin02 {p : Prop} [Decidable p] (h : (!decide p) = true) : ¬ p := fun z => by
  rw [decide_eq_true z] at h
  cases h
theorem inn02 {p : Prop} [Decidable p] (h : (!decide p) = false) : p := by
  by_cases z : p
  · exact z
  · rw [decide_eq_false z] at h
    cases h
theorem map_snoc02 (l : List (List Int × Nat)) (p : List Int × Nat) : l.map facD ++ [facD p] = (l ++ [p]).map facD := by
  rw [List.map_append]
  rfl
theorem no_ne02 {a b : PySem.Str} (e : a = b) (h : (!decide (a = b)) = true) : False := by
  rw [decide_eq_true e] at h
  cases h
theorem flt_in {α : Type} {fs : List α} {i : Nat} {p : α} {f : α → Bool} (hp : fs[i]? = some p) (h : f p = true) : (fs.take (i + 1)).filter f = (fs.take i).filter f ++ [p] := by
  rw [List.take_add_one, hp, List.filter_append]
  show _ ++ List.filter f [p] = _
  rw [List.filter_cons_of_pos h]
  rfl
theorem flt_out {α : Type} {fs : List α} {i : Nat} {p : α} {f : α → Bool} (hp : fs[i]? = some p) (h : f p = false) : (fs.take (i + 1)).filter f = (fs.take i).filter f := by
  rw [List.take_add_one, hp, List.filter_append]
  show _ ++ List.filter f [p] = _
  rw [List.filter_cons_of_neg (by rw [h]; decide)]
  exact List.append_nil _
theorem sho_l3 {x y z : PyData} {e c : Nat} (hx : Sho e c x) (hy : Sho e c y) (hz : Sho e c z) : Sho (e + 1) ((c + 2) * 3 + 3) (.list [x, y, z]) := sho_lst (ds := [x, y, z]) fun d hd => by
  simp only [List.mem_cons, List.not_mem_nil, or_false] at hd
  rcases hd with rfl | rfl | rfl
  · exact hx
  · exact hy
  · exact hz
theorem sho_l2 {x y : PyData} {e c : Nat} (hx : Sho e c x) (hy : Sho e c y) : Sho (e + 1) ((c + 2) * 2 + 3) (.list [x, y]) := sho_lst (ds := [x, y]) fun d hd => by
  simp only [List.mem_cons, List.not_mem_nil, or_false] at hd
  rcases hd with rfl | rfl
  · exact hx
  · exact hy
theorem sho_row02 {u : List Int} (hl : u.length ≤ 30) (hb : n1 u < 2 ^ 100) : Sho 1 57693 (rowD u) := sho_up (sho_tup (e := 0) (c := 1921) (ds := u.map .int) fun d hd => by
  obtain ⟨x, hx, rfl⟩ := List.mem_map.mp hd
  exact sho_int (pow_up (Nat.lt_of_le_of_lt (n1_mem hx) hb) (by decide))) (by decide) (by rw [List.length_map]; omega)
theorem sho_fr02 {r : Fr} (a : r.1.natAbs < 2 ^ 280) (b : r.2.natAbs < 2 ^ 280) : Sho 1 57693 (frD r) := sho_up (sho_tup (e := 0) (c := 1921) (ds := [.int r.1, .int r.2]) fun d hd => by
  simp only [List.mem_cons, List.not_mem_nil, or_false] at hd
  rcases hd with rfl | rfl
  · exact sho_int (pow_up a (by decide))
  · exact sho_int (pow_up b (by decide))) (by decide) (by show (1921 + 2) * 2 + 3 ≤ 57693; decide)
theorem bc_inj {a b : List (List Int × Nat)} {c d : Int} (h : [PyData.list (a.map facD), .int c] = [.list (b.map facD), .int d]) : a = b ∧ c = d := by
  simp only [List.cons.injEq, and_true, PyData.int.injEq, PyData.list.injEq] at h
  exact ⟨facD_inj h.1, h.2⟩
theorem built_is {fs : List (List Int × Nat)} {c : Int} {u : List Int} (c0 : c ≠ 0) (cb : c.natAbs < 2 ^ 10) (l : fs.length ≤ 6) (h : ∀ p ∈ fs, Fac p.1 ∧ p.2 ≤ 2) (t : u.getLast? ≠ some 0) (e : ∀ x, pI u x = (c : Rat) * fV fs x) : u ≠ [] ∧ u.length ≤ 25 ∧ n1 u < 2 ^ 94 ∧ rdc u = prd fs := by
  obtain ⟨a, b⟩ := prd_bd h
  obtain ⟨s1, s2, s3, s4⟩ := sc_len c0 (fun x => by rw [e, prd_pI]) t (prd_gd fun p hp => (h p hp).1)
  refine ⟨s1, by omega, Nat.lt_of_le_of_lt (Nat.le_trans s4 (Nat.mul_le_mul_left _ (Nat.le_trans a (Nat.pow_le_pow_right (n := 2) (by decide) (show 14 * fs.length ≤ 84 by omega))))) ?_, s3⟩
  rw [show (94 : Nat) = 10 + 84 from rfl, Nat.pow_add]
  exact Nat.mul_lt_mul_of_pos_right cb (Nat.pow_pos (by decide))
theorem prd_app {fs gs : List (List Int × Nat)} (h : ∀ p ∈ fs, Fac p.1) (k : ∀ p ∈ gs, Fac p.1) : prd (fs ++ gs) = mulT (prd fs) (prd gs) := gd_val (prd_gd fun p hp => (List.mem_append.mp hp).elim (h p) (k p)) ((prd_gd h).mul (prd_gd k)) (z := 1) (by decide) fun x => by
  rw [prd_pI, fV_app, mulT_pI, prd_pI, prd_pI, Rat.one_mul]
theorem unl02 {os ws : List (List Int × Nat)} (ho : ∀ p ∈ os, Fac p.1 ∧ p.2 ≤ 2) (hw : ∀ p ∈ ws, Fac p.1 ∧ p.2 ≤ 2) (lo : os.length ≤ 2) (lw : ws.length ≤ 4) (ne : ∀ q ∈ os, ∀ p ∈ ws, q.1 ≠ p.1) : CopB (prd os) (prd ws) 663 := by
  have c1 : ∀ q ∈ os, CopB q.1 (prd ws) 165 ∧ q.2 ≤ 2 := fun q hq => ⟨(copb_prd (n := 20) (k := 2) fun p hp => ⟨(ho q hq).1.copb (hw p hp).1 (ne q hq p hp), (hw p hp).2⟩).up (by omega), (ho q hq).2⟩
  exact (copb_two c1).up (by omega)
theorem dbk02 {f g G : List Int} {B : Nat} (nf : f ≠ []) (ng : g ≠ []) (tf : f.getLast? ≠ some 0) (tg : g.getLast? ≠ some 0) (lf : f.length ≤ 30) (lg : g.length ≤ 30) (bf : n1 f < 2 ^ 94) (bg : n1 g < 2 ^ 94) (I : IsG (rdc f) (rdc g) G B) (hB : B ≤ 700) : DbK f g 94 :=
  ⟨nf, ng, tf, tg, by omega, by omega, pow_up (Nat.lt_of_le_of_lt (gcd_n1 tf nf) bf) (by decide), pow_up (Nat.lt_of_le_of_lt (gcd_n1 tg ng) bg) (by decide), Nat.lt_of_le_of_lt (rdc_spec tf nf).2.2.2.1 bf, Nat.lt_of_le_of_lt (rdc_spec tg ng).2.2.2.1 bg, by decide, G, B, I, by omega⟩
theorem one02 {f : List Int} (nf : f ≠ []) (tf : f.getLast? ≠ some 0) (lf : f.length ≤ 30) (bf : n1 f < 2 ^ 94) : One f [] := ⟨rfl, nf, tf, by omega, pow_up (Nat.lt_of_le_of_lt (gcd_n1 tf nf) bf) (by decide)⟩
theorem fg_inj {f g f' g' : List Int} (h : [rowD f, rowD g] = [rowD f', rowD g']) : f = f' ∧ g = g' := by
  simp only [List.cons.injEq, and_true] at h
  exact ⟨rowD_inj h.1, rowD_inj h.2⟩
theorem cd02 {f g G : List Int} {d : PyData} {B : Nat} (I : IsG (rdc f) (rdc g) G B) (nf : f ≠ []) (ng : g ≠ []) (h : post_common_divisor [rowD f, rowD g] d) : d = rowD G := by
  obtain ⟨f', g', e, h⟩ := h
  obtain ⟨rfl, rfl⟩ := fg_inj e
  rcases h with ⟨_, _, G', B', J, rfl⟩ | ⟨z, _⟩ | ⟨z, _⟩
  · rw [I.uniq J]
  · exact (ng z).elim
  · exact (nf z).elim
theorem cd02a {f : List Int} {d : PyData} (nf : f ≠ []) (h : post_common_divisor [rowD f, rowD []] d) : d = rowD (rdc f) := by
  obtain ⟨f', g', e, h⟩ := h
  obtain ⟨rfl, rfl⟩ := fg_inj e
  rcases h with ⟨_, z, _⟩ | ⟨_, e⟩ | ⟨z, _⟩
  · exact (z rfl).elim
  · exact e
  · exact (nf z).elim
theorem cd02b {f : List Int} {d : PyData} (nf : f ≠ []) (h : post_common_divisor [rowD [], rowD f] d) : d = rowD (rdc f) := by
  obtain ⟨f', g', e, h⟩ := h
  obtain ⟨rfl, rfl⟩ := fg_inj e
  rcases h with ⟨z, _⟩ | ⟨z, _⟩ | ⟨_, _, e⟩
  · exact (z rfl).elim
  · exact (nf z).elim
  · exact e

def pre__law_right : List PyData → Prop := fun ds => True ∧ ds = []
def post__law_right : List PyData → PyData → Prop := fun ds d => d = .bool true
abbrev sp__law_right (K : PySem.W.Frag) : Sp := SpW K pre__law_right post__law_right
theorem len__law_right (K : PySem.W.Frag) (vs : List V) (H : Hp) (Q : VK) (E : XK) (h : sp__law_right K vs H Q E) : vs.length = p__law_right.length := len_W (n := 0) h fun ds hp => by
  obtain ⟨_, e⟩ := hp
  rw [e]; rfl
def t__law_right (K : PySem.W.Frag) : TS :=
  (tSeq (tAsg (tTup (tCons (tCall (sp__law_roots_built K) [] E0 (tCons (tVar 0) (tCons (tC (.int 2)) (tCons (tC (.int 2)) tNil)))) (tCons (tCall (sp__law_roots_built K) [] E0 (tCons (tVar 0) (tCons (tC (.int 2)) (tCons (tC (.int 2)) tNil)))) (tCons (tCall (sp__law_roots_built K) [] E0 (tCons (tVar 0) (tCons (tC (.int 2)) (tCons (tC (.int 2)) tNil)))) tNil)))) (gTup K 3 (gCons (gName 1) (gCons (gName 2) (gCons (gName 3) gNil)))))
  (tSeq (tPar 4 5 (tCons (tCall (sp__law_one K) [] E0 (tCons (tVar 0) (tCons (tLst (tCons (tC (.int 1)) (tCons (tUn (rU fun i => .int (-i)) (tC (.int 1))) (tCons (tC (.int 2)) (tCons (tUn (rU fun i => .int (-i)) (tC (.int 3))) (tCons (tC (.int 12)) tNil)))))) tNil))) (tCons (tOp (rAddA K) (tC (.int 1)) (tCall (sp__law_pull K) [] E0 (tCons (tVar 0) (tCons (tC (.int 2)) tNil)))) tNil)))
  (tSeq (tAsg (tLc (iList K (tVar 2)) (gName 14) (tTest (tOp (rNotInD K) (tOp (rIx K) (tVar 14) (tC (.int 0))) (tLc (iList K (tVar 1)) (gName 6) tYes (tOp (rIx K) (tVar 6) (tC (.int 0))) [6]))) (tVar 14) [14]) (gName 2))
  (tSeq (tAsg (tLc (iList K (tVar 3)) (gName 14) (tTest (tOp (rNotInD K) (tOp (rIx K) (tVar 14) (tC (.int 0))) (tLc (iList K (tOp (rAddA K) (tVar 1) (tVar 2))) (gName 6) tYes (tOp (rIx K) (tVar 6) (tC (.int 0))) [6]))) (tVar 14) [14]) (gName 3))
  (tSeq (tPar 6 7 (tCons (tCB (rTupleQ K) (tCons (tCall (sp__law_built K) [] E0 (tCons (tOp (rAddA K) (tVar 1) (tVar 2)) (tCons (tVar 4) tNil))) tNil)) (tCons (tIf (tTest (tOp rEq (tVar 5) (tC (.int 1)))) (tCall (sp__law_built K) [] E0 (tCons (tVar 1) (tCons (tC (.int 1)) tNil))) (tLst (tCons (tC (.int 1)) tNil))) tNil)))
  (tSeq (tAsg (tCB (rTupleQ K) (tCons (tCall (sp__law_product K) [] E0 (tCons (tCall (sp__law_built K) [] E0 (tCons (tOp (rAddA K) (tVar 1) (tVar 3)) (tCons (tC (.int 5)) tNil))) (tCons (tVar 7) tNil))) tNil)) (gName 8))
  (tSeq (tAsg (tCB (rTupleQ K) (tCons (tCall (sp__law_upright K) [] E0 (tCons (tCall (sp__law_built K) [] E0 (tCons (tVar 1) (tCons (tC (.int 1)) tNil))) tNil)) tNil)) (gName 9))
  (tSeq (tAsg (tLst (tCons (tCall (sp_common_divisor K) [] E0 (tCons (tVar 6) (tCons (tVar 8) tNil))) (tCons (tCall (sp_common_divisor K) [] E0 (tCons (tVar 8) (tCons (tVar 6) tNil))) (tCons (tCallK0 (sp_common_divisor K) E0 (tCons (tVar 6) (tCons (tVar 8) tNil))) tNil)))) (gName 10))
  (tSeq (tIfS (tTest (tOp rNe (tCB (rReprD K) (tCons (tVar 10) tNil)) (tCB (rReprD K) (tCons (tLst (tCons (tVar 9) (tCons (tVar 9) (tCons (tVar 9) tNil)))) tNil)))) (tRet (tC (.bl false))) tNext)
  (tSeq (tAsg (tCB (rTupleQ K) (tCons (tCall (sp__law_upright K) [] E0 (tCons (tVar 6) tNil)) tNil)) (gName 11))
  (tSeq (tIfS (tTest (tOp rNe (tCB (rReprD K) (tCons (tLst (tCons (tCall (sp_common_divisor K) [] E0 (tCons (tVar 6) (tCons (tTup tNil) tNil))) (tCons (tCall (sp_common_divisor K) [] E0 (tCons (tTup tNil) (tCons (tVar 6) tNil))) (tCons (tCall (sp_common_divisor K) [] E0 (tCons (tVar 6) (tCons (tTup (tCons (tVar 4) tNil)) tNil))) tNil)))) tNil)) (tCB (rReprD K) (tCons (tLst (tCons (tVar 11) (tCons (tVar 11) (tCons (tTup (tCons (tC (.int 1)) tNil)) tNil)))) tNil)))) (tRet (tC (.bl false))) tNext)
  (tSeq (tFor (iList K (tLst (tCons (tVar 6) (tCons (tVar 8) (tCons (tTup tNil) (tCons (tTup (tCons (tVar 4) tNil)) tNil)))))) (gName 12) (tSeq (tAsg (tCall (sp__law_any_fraction K) [] E0 (tCons (tVar 0) tNil)) (gName 13))
  (tSeq (tAsg (tCall (sp__law_value K) [] E0 (tCons (tVar 12) (tCons (tVar 13) tNil))) (gName 9))
  (tSeq (tIfS (tTest (tOp rNe (tCB (rReprD K) (tCons (tLst (tCons (tCall (sp_value_at K) [] E0 (tCons (tVar 12) (tCons (tVar 13) tNil))) (tCons (tCallK0 (sp_value_at K) E0 (tCons (tVar 12) (tCons (tVar 13) tNil))) tNil))) tNil)) (tCB (rReprD K) (tCons (tLst (tCons (tVar 9) (tCons (tVar 9) tNil))) tNil)))) (tRet (tC (.bl false))) tNext)
  (tIfS (tOr (tTest (tOp rNotB (tCall (sp_is_polynomial K) [] E0 (tCons (tVar 12) tNil)) (tC (.bl true)))) (tTest (tOp rNotB (tCallK0 (sp_is_polynomial K) E0 (tCons (tCall (sp__law_bent K) [] E0 (tCons (tVar 0) (tCons (tVar 12) tNil))) tNil)) (tC (.bl false))))) (tRet (tC (.bl false))) tNext)))))
  (tRet (tC (.bl true)))))))))))))))
theorem pure__law_right (K : PySem.W.Frag) (vs : List V) (H : Hp) (Q : VK) (E : XK) (h : sp__law_right K vs H Q E) : t__law_right K { nx := fun _ H' => Q .non H', rt := Q } (L2.start N__law_right vs) H := body_W h (by decide) fun B w ds hp => by
  obtain ⟨_, e⟩ := hp
  subst e
  unfold t__law_right

  refine st_seq (st_unpack (ev_tup (ea_cons (ev_callW rfl (ea_cons (ev_int (ea_cons (ev_int (ea_nil ⟨⟨2, 2, rfl, by decide, by decide, by decide, by decide⟩, fun X ⟨a, b, bs, e, ex, l0bs, l2bs, hbs, pbs⟩ => ?_⟩)))))))))
  have hab : a = 2 ∧ b = 2 := by
    simp only [List.cons.injEq, and_true, PyData.int.injEq] at e
    omega
  obtain ⟨rfl, rfl⟩ := hab
  subst ex
  refine ea_cons (ev_callW rfl (ea_cons (ev_int (ea_cons (ev_int (ea_nil ⟨⟨2, 2, rfl, by decide, by decide, by decide, by decide⟩, fun X ⟨a, b, os, e, ex, l0os, l2os, hos, pos⟩ => ?_⟩))))))
  have hab : a = 2 ∧ b = 2 := by
    simp only [List.cons.injEq, and_true, PyData.int.injEq] at e
    omega
  obtain ⟨rfl, rfl⟩ := hab
  subst ex
  refine ea_cons (ev_callW rfl (ea_cons (ev_int (ea_cons (ev_int (ea_nil ⟨⟨2, 2, rfl, by decide, by decide, by decide, by decide⟩, fun X ⟨a, b, ts, e, ex, l0ts, l2ts, hts, pts⟩ => ?_⟩))))))
  have hab : a = 2 ∧ b = 2 := by
    simp only [List.cons.injEq, and_true, PyData.int.injEq] at e
    omega
  obtain ⟨rfl, rfl⟩ := hab
  subst ex
  refine ea_nil ⟨by simp, _, rfl, rfl, tg_cons (tg_cons (tg_cons (tg_nil ?_)))⟩
  refine st_seq (st_par (ea_cons (ev_callW rfl ?_)))
  walk_at "dd"
  refine ⟨⟨_, rfl, by simp, by simp⟩, fun d ⟨xs, ex, hd⟩ => ?_⟩
  cases ex
  obtain ⟨c, rfl, c0, cb⟩ : ∃ c : Int, d = .int c ∧ c ≠ 0 ∧ c.natAbs < 2 ^ 10 := by
    have hd2 : d ∈ ([1, -1, 2, -3, 12] : List Int).map PyData.int := hd
    obtain ⟨c, h1, rfl⟩ := List.mem_map.mp hd2
    have h2 : ∀ k ∈ ([1, -1, 2, -3, 12] : List Int), k ≠ 0 ∧ k.natAbs < 2 ^ 10 := by decide
    exact ⟨c, rfl, (h2 c h1).1, (h2 c h1).2⟩
  refine ea_cons (ev_op (ev_int (ev_callW rfl (ea_cons (ev_int (ea_nil ⟨⟨2, rfl, by decide, by decide⟩, fun d ⟨m', y, em, ed, y0, y1⟩ => ?_⟩))))))
  subst ed
  refine ro_add (ea_nil ⟨_, _, rfl, ?_⟩)
  refine st_seq (st_asg (ev_new (en_lcL (wipe1 14) (ev_var rfl ⟨os.map facD, rfl, by rw [List.length_map]; omega, fun i acc => acc = ((os.take i).filter fun p => decide (p.1 ∉ (bs).map (·.1))).map facD, ⟨rfl, fun i D d' acc hi hJ hin => ?_⟩, fun acc hJ => ?_⟩))))
  · obtain ⟨p, hp, rfl⟩ : ∃ p, os[i]? = some p ∧ d' = facD p := map_getG hi
    refine et_test (ev_op (ev_op (ev_var rfl (ev_int (rok_ixsT (d := .list (p.1.map .int)) rfl ?_)))))
    refine ev_new (en_lcL (wipe1 6) (ev_var rfl ⟨bs.map facD, rfl, by rw [List.length_map]; omega, fun j ac => ac = (((bs).take j).map (·.1)).map fun r => PyData.list (r.map .int), ⟨rfl, fun j D2 d2 ac hj hJ2 hin2 => ?_⟩, fun ac hJ2 => ?_⟩))
    · obtain ⟨q, hq, rfl⟩ : ∃ q, (bs)[j]? = some q ∧ d2 = facD q := map_getG hj
      refine et_yes ⟨fun _ => ?_, fun z => nomatch z⟩
      refine ev_op (ev_var rfl (ev_int (rok_ixsT (d := .list (q.1.map .int)) rfl ?_)))
      subst hJ2
      rw [List.take_add_one, hq, List.map_append, List.map_append]
      rfl
    · rw [List.length_map, List.take_length] at hJ2
      subst hJ2
      refine rok_notInD (int_shaped _).2 (lis_shaped _).2 (int_shaped _).1 (lis_shaped _).1 ⟨_, rfl, fun hb => ?_, fun hb => ?_⟩
      · have hb : (!(((bs).map (·.1)).map fun r => PyData.list (r.map .int)).any fun z => PyData.eqv z (.list (p.1.map .int))) = true := hb
        rw [lis_any] at hb
        refine ev_var rfl ?_
        subst hJ
        rw [flt_in hp (f := fun p => decide (p.1 ∉ (bs).map (·.1))) (decide_eq_true (nin02 hb))]
        exact map_snoc02 _ _
      · have hb : (!(((bs).map (·.1)).map fun r => PyData.list (r.map .int)).any fun z => PyData.eqv z (.list (p.1.map .int))) = false := hb
        rw [lis_any] at hb
        show acc = ((os.take (i + 1)).filter fun p => decide (p.1 ∉ (bs).map (·.1))).map facD
        rw [flt_out hp (f := fun p => decide (p.1 ∉ (bs).map (·.1))) (decide_eq_false fun z => z (inn02 hb))]
        exact hJ
  rw [List.length_map, List.take_length] at hJ
  subst hJ
  obtain ⟨os', eos⟩ : ∃ l, l = os.filter fun p => decide (p.1 ∉ (bs).map (·.1)) := ⟨_, rfl⟩
  rw [← eos]
  have mos : ∀ p ∈ os', p ∈ os ∧ p.1 ∉ (bs).map (·.1) := fun p hp => by
    rw [eos, List.mem_filter] at hp
    exact ⟨hp.1, of_decide_eq_true hp.2⟩
  have los : os'.length ≤ 2 := by
    rw [eos]
    exact Nat.le_trans (List.length_filter_le ..) l2os
  clear eos
  refine st_seq (st_asg (ev_new (en_lcL (wipe1 14) (ev_var rfl ⟨ts.map facD, rfl, by rw [List.length_map]; omega, fun i acc => acc = ((ts.take i).filter fun p => decide (p.1 ∉ (bs ++ os').map (·.1))).map facD, ⟨rfl, fun i D d' acc hi hJ hin => ?_⟩, fun acc hJ => ?_⟩))))
  · obtain ⟨p, hp, rfl⟩ : ∃ p, ts[i]? = some p ∧ d' = facD p := map_getG hi
    refine et_test (ev_op (ev_op (ev_var rfl (ev_int (rok_ixsT (d := .list (p.1.map .int)) rfl ?_)))))
    refine ev_new (en_lcL (wipe1 6) (ev_op (ev_var rfl (ev_var rfl (ro_catL (by rw [List.length_map, List.length_map]; omega) ⟨(bs ++ os').map facD, congrArg PyData.list (List.map_append ..).symm, by rw [List.length_map, List.length_append]; omega, fun j ac => ac = (((bs ++ os').take j).map (·.1)).map fun r => PyData.list (r.map .int), ⟨rfl, fun j D2 d2 ac hj hJ2 hin2 => ?_⟩, fun ac hJ2 => ?_⟩)))))
    · obtain ⟨q, hq, rfl⟩ : ∃ q, (bs ++ os')[j]? = some q ∧ d2 = facD q := map_getG hj
      refine et_yes ⟨fun _ => ?_, fun z => nomatch z⟩
      refine ev_op (ev_var rfl (ev_int (rok_ixsT (d := .list (q.1.map .int)) rfl ?_)))
      subst hJ2
      rw [List.take_add_one, hq, List.map_append, List.map_append]
      rfl
    · rw [List.length_map, List.take_length] at hJ2
      subst hJ2
      refine rok_notInD (int_shaped _).2 (lis_shaped _).2 (int_shaped _).1 (lis_shaped _).1 ⟨_, rfl, fun hb => ?_, fun hb => ?_⟩
      · have hb : (!(((bs ++ os').map (·.1)).map fun r => PyData.list (r.map .int)).any fun z => PyData.eqv z (.list (p.1.map .int))) = true := hb
        rw [lis_any] at hb
        refine ev_var rfl ?_
        subst hJ
        rw [flt_in hp (f := fun p => decide (p.1 ∉ (bs ++ os').map (·.1))) (decide_eq_true (nin02 hb))]
        exact map_snoc02 _ _
      · have hb : (!(((bs ++ os').map (·.1)).map fun r => PyData.list (r.map .int)).any fun z => PyData.eqv z (.list (p.1.map .int))) = false := hb
        rw [lis_any] at hb
        show acc = ((ts.take (i + 1)).filter fun p => decide (p.1 ∉ (bs ++ os').map (·.1))).map facD
        rw [flt_out hp (f := fun p => decide (p.1 ∉ (bs ++ os').map (·.1))) (decide_eq_false fun z => z (inn02 hb))]
        exact hJ
  rw [List.length_map, List.take_length] at hJ
  subst hJ
  obtain ⟨ts', ets⟩ : ∃ l, l = ts.filter fun p => decide (p.1 ∉ (bs ++ os').map (·.1)) := ⟨_, rfl⟩
  rw [← ets]
  have mts : ∀ p ∈ ts', p ∈ ts ∧ p.1 ∉ (bs ++ os').map (·.1) := fun p hp => by
    rw [ets, List.mem_filter] at hp
    exact ⟨hp.1, of_decide_eq_true hp.2⟩
  have lts : ts'.length ≤ 2 := by
    rw [ets]
    exact Nat.le_trans (List.length_filter_le ..) l2ts
  clear ets
  have hb2 : ∀ p ∈ bs, Fac p.1 ∧ p.2 ≤ 2 := fun p hp => ⟨(hbs p hp).1, (hbs p hp).2.2⟩
  have ho2 : ∀ p ∈ os', Fac p.1 ∧ p.2 ≤ 2 := fun p hp => ⟨(hos p (mos p hp).1).1, (hos p (mos p hp).1).2.2⟩
  have ht2 : ∀ p ∈ ts', Fac p.1 ∧ p.2 ≤ 2 := fun p hp => ⟨(hts p (mts p hp).1).1, (hts p (mts p hp).1).2.2⟩
  have hb3 : ∀ p ∈ bs, Fac p.1 ∧ 1 ≤ p.2 ∧ p.2 ≤ 3 := fun p hp => ⟨(hbs p hp).1, (hbs p hp).2.1, Nat.le_succ_of_le (hbs p hp).2.2⟩
  have hbo3 : ∀ p ∈ bs ++ os', Fac p.1 ∧ 1 ≤ p.2 ∧ p.2 ≤ 3 := fun p hp => (List.mem_append.mp hp).elim (hb3 p) fun hp => ⟨(hos p (mos p hp).1).1, (hos p (mos p hp).1).2.1, Nat.le_succ_of_le (hos p (mos p hp).1).2.2⟩
  have hbt3 : ∀ p ∈ bs ++ ts', Fac p.1 ∧ 1 ≤ p.2 ∧ p.2 ≤ 3 := fun p hp => (List.mem_append.mp hp).elim (hb3 p) fun hp => ⟨(hts p (mts p hp).1).1, (hts p (mts p hp).1).2.1, Nat.le_succ_of_le (hts p (mts p hp).1).2.2⟩
  have lbo : (bs ++ os').length ≤ 4 := by
    rw [List.length_append]
    omega
  have lbt : (bs ++ ts').length ≤ 4 := by
    rw [List.length_append]
    omega
  have lcat : ∀ l : List (List Int × Nat), l.length ≤ 2 → (bs.map facD).length + (l.map facD).length ≤ 1000000 := fun l hl => by
    rw [List.length_map, List.length_map]
    omega
  have z1 : ((1 : Int) : Rat) = 1 := rfl
  refine st_mid (fun L2 Γ2 => ∃ (u : List Int) (rs : List (List Int × Nat)) (m : List Int), L2 = [] ∧ Γ2 = [.well w, .d (.list (bs.map facD)), .d (.list (os'.map facD)), .d (.list (ts'.map facD)), .d (.int c), .d (.int (1 + y)), .d (rowD u), .d (.list (m.map .int)), .un, .un, .un, .un, .un, .un, .un] ∧ (rs = bs ∨ rs = []) ∧ u ≠ [] ∧ u.getLast? ≠ some 0 ∧ (∀ x, pI u x = (c : Rat) * fV (bs ++ os') x) ∧ m ≠ [] ∧ m.getLast? ≠ some 0 ∧ ∀ x, pI m x = fV rs x) (st_par (ea_cons (ev_cb (ea_cons (ev_callP (ea_cons (ev_op (ev_var rfl (ev_var rfl (ro_catL (lcat _ los) (ea_cons (ev_var rfl (ea_nil ⟨⟨bs ++ os', c, by rw [List.map_append], lbo, c0, cb, hbo3⟩, fun d ⟨fs', c', u, e, ed, un, ut, uv⟩ => ?_⟩))))))))))))) ?_
  · rw [← List.map_append] at e
    obtain ⟨rfl, rfl⟩ := bc_inj e
    subst ed
    refine ea_nil (co_tupL ?_)
    refine ea_cons (ev_if (et_test (ev_op (ev_var rfl (ev_int (rok_eqI ⟨_, rfl, fun hb => ?_, fun hb => ?_⟩))))))
    · refine ev_callP (ea_cons (ev_var rfl (ea_cons (ev_int (ea_nil ⟨⟨bs, 1, rfl, by omega, by decide, by decide, hb3⟩, fun d ⟨fs', c', m, e, ed, mn, mt, mv⟩ => ?_⟩)))))
      obtain ⟨rfl, rfl⟩ := bc_inj e
      subst ed
      exact ea_nil ⟨_, _, rfl, u, bs, m, rfl, rfl, .inl rfl, un, ut, uv, mn, mt, fun x => by rw [mv, z1, Rat.one_mul]⟩
    · exact ev_lst (ea_cons (ev_int (ea_nil ⟨by simp, ea_nil ⟨_, _, rfl, u, [], [1], rfl, rfl, .inr rfl, un, ut, uv, by simp, by simp, fun x => by rw [pI_one]; rfl⟩⟩)))
  rintro L2 Γ2 ⟨u, rs, m, rfl, rfl, hrs, un, ut, uv, mn, mt, mv⟩
  have hr2 : ∀ p ∈ rs, p ∈ bs := by
    rcases hrs with rfl | rfl
    · exact fun p hp => hp
    · exact fun p hp => by cases hp
  have lrs : rs.length ≤ 2 := by
    rcases hrs with rfl | rfl
    · exact l2bs
    · exact Nat.zero_le _
  clear hrs
  have hbo2 : ∀ p ∈ bs ++ os', Fac p.1 ∧ p.2 ≤ 2 := fun p hp => (List.mem_append.mp hp).elim (hb2 p) (ho2 p)
  have hbt2 : ∀ p ∈ bs ++ ts', Fac p.1 ∧ p.2 ≤ 2 := fun p hp => (List.mem_append.mp hp).elim (hb2 p) (ht2 p)
  have htr2 : ∀ p ∈ ts' ++ rs, Fac p.1 ∧ p.2 ≤ 2 := fun p hp => (List.mem_append.mp hp).elim (ht2 p) fun hp => hb2 p (hr2 p hp)
  have hal2 : ∀ p ∈ bs ++ (ts' ++ rs), Fac p.1 ∧ p.2 ≤ 2 := fun p hp => (List.mem_append.mp hp).elim (hb2 p) (htr2 p)
  have ltr : (ts' ++ rs).length ≤ 4 := by
    rw [List.length_append]
    omega
  obtain ⟨_, ul, ub, ur⟩ := built_is c0 cb (by omega) hbo2 ut uv
  obtain ⟨_, ml, mb, _⟩ := built_is (c := 1) (by decide) (by decide) (by omega) (fun p hp => hb2 p (hr2 p hp)) mt (fun x => by rw [mv, z1, Rat.one_mul])
  refine st_seq (st_asg (ev_cb (ea_cons (ev_callP (ea_cons (ev_callP (ea_cons (ev_op (ev_var rfl (ev_var rfl (ro_catL (lcat _ lts) (ea_cons (ev_int (ea_nil ⟨⟨bs ++ ts', 5, by rw [List.map_append], lbt, by decide, by decide, hbt3⟩, fun d ⟨fs', c', v, e, ed, vn, vt, vv⟩ => ?_⟩))))))))))))))
  rw [← List.map_append] at e
  obtain ⟨rfl, rfl⟩ := bc_inj e
  subst ed
  obtain ⟨_, vl, vb, _⟩ := built_is (c := 5) (by decide) (by decide) (by omega) hbt2 vt vv
  refine ea_cons (ev_var rfl (ea_nil ⟨⟨v, m, rfl, by omega, by omega, pow_up vb (by decide), pow_up mb (by decide)⟩, fun d ⟨v', m', t, e, ed, tt, _, _, tv⟩ => ?_⟩))
  obtain ⟨rfl, rfl⟩ := li2 e
  subst ed
  refine ea_nil (co_tupL ?_)
  obtain ⟨tn, tl, tb, tr⟩ := built_is (fs := bs ++ (ts' ++ rs)) (c := 5) (by decide) (by decide) (by rw [List.length_append]; omega) hal2 tt fun x => by
    rw [tv, vv, mv, fV_app, fV_app, fV_app]
    grind
  refine st_seq (st_asg (ev_cb (ea_cons (ev_callP (ea_cons (ev_callP (ea_cons (ev_var rfl (ea_cons (ev_int (ea_nil ⟨⟨bs, 1, rfl, by omega, by decide, by decide, hb3⟩, fun d ⟨fs', c', b, e, ed, bn, bt, bv⟩ => ?_⟩)))))))))))
  obtain ⟨rfl, rfl⟩ := bc_inj e
  subst ed
  obtain ⟨_, bl, bb, br⟩ := built_is (c := 1) (by decide) (by decide) (by omega) hb2 bt bv
  refine ea_nil ⟨⟨true, b, rfl, by omega, pow_up bb (by decide), bn, bt⟩, fun d ⟨_, b', e, ed⟩ => ?_⟩
  obtain rfl : b = b' := lt_inj (b := true) e
  subst ed
  refine ea_nil (co_tupL ?_)
  have gB := prd_gd fun p hp => (hb2 p hp).1
  have I1 : IsG (rdc u) (rdc t) (rdc b) 663 := by
    rw [ur, tr, br, prd_app (fun p hp => (hb2 p hp).1) (fun p hp => (ho2 p hp).1), prd_app (fun p hp => (hb2 p hp).1) (fun p hp => (htr2 p hp).1)]
    refine isg_parts gB (prd_gd fun p hp => (ho2 p hp).1) (prd_gd fun p hp => (htr2 p hp).1) (unl02 ho2 htr2 los ltr fun q hq p hp z => ?_) ?_
    · rcases List.mem_append.mp hp with hp | hp
      · exact (mts p hp).2 (List.mem_map.mpr ⟨q, List.mem_append_right _ hq, z⟩)
      · exact (mos q hq).2 (List.mem_map.mpr ⟨p, hr2 p hp, z.symm⟩)
    · rw [← br]
      exact pow_up (Nat.lt_of_le_of_lt (rdc_spec bt bn).2.2.2.1 bb) (by decide)
  have D1 := dbk02 un tn ut tt (by omega) (by omega) ub tb I1 (by decide)
  have D2 := dbk02 tn un tt ut (by omega) (by omega) tb ub I1.symm (by decide)
  have SB : Sho 1 57693 (rowD (rdc b)) := sho_row02 (by rw [(rdc_spec bt bn).2.2.2.2.1]; omega) (pow_up (Nat.lt_of_le_of_lt (rdc_spec bt bn).2.2.2.1 bb) (by decide))
  have SU : Sho 1 57693 (rowD (rdc u)) := sho_row02 (by rw [(rdc_spec ut un).2.2.2.2.1]; omega) (pow_up (Nat.lt_of_le_of_lt (rdc_spec ut un).2.2.2.1 ub) (by decide))
  have S1 : Sho 1 57693 (rowD [1]) := sho_row02 (by decide) (by decide)
  have S3 := sho_l3 SB SB SB
  have S4 := sho_l3 SU SU S1
  refine st_seq (st_asg (ev_lst (ea_cons (ev_callP (ea_cons (ev_var rfl (ea_cons (ev_var rfl (ea_nil ⟨⟨u, t, 94, rfl, .inl D1⟩, fun d hd => ?_⟩)))))))))
  obtain rfl := cd02 I1 un tn hd
  refine ea_cons (ev_callP (ea_cons (ev_var rfl (ea_cons (ev_var rfl (ea_nil ⟨⟨t, u, 94, rfl, .inl D2⟩, fun d hd => ?_⟩))))))
  obtain rfl := cd02 I1.symm tn un hd
  refine ea_cons (ev_callK0 (ea_cons (ev_var rfl (ea_cons (ev_var rfl (ea_nil ⟨⟨u, t, 94, rfl, .inl D1⟩, fun d hd => ?_⟩))))))
  obtain rfl := cd02 I1 un tn hd
  refine ea_nil ⟨by simp, ?_⟩
  refine st_seq (st_if (et_test (ev_op (ev_cb (ea_cons (ev_var rfl (ea_nil (cok_show S3 rfl (by decide) (by decide) (ev_cb (ea_cons (ev_lst (ea_cons (ev_var rfl (ea_cons (ev_var rfl (ea_cons (ev_var rfl (ea_nil ⟨by simp, ea_nil (cok_show S3 rfl (by decide) (by decide) (rok_neS ⟨_, rfl, fun hb => (no_ne02 rfl hb).elim, fun _ => st_next ?_⟩))⟩))))))))))))))))))
  refine st_seq (st_asg (ev_cb (ea_cons (ev_callP (ea_cons (ev_var rfl (ea_nil ⟨⟨false, u, rfl, by omega, pow_up ub (by decide), un, ut⟩, fun d ⟨_, u', e, ed⟩ => ?_⟩)))))))
  obtain rfl : u = u' := lt_inj (b := false) e
  subst ed
  refine ea_nil (co_tupL ?_)
  have cn : [c] ≠ [] := by simp
  have ct : ([c] : List Int).getLast? ≠ some 0 := fun z => c0 (by simpa using z)
  have cl : ([c] : List Int).length ≤ 30 := by
    show 1 ≤ 30
    decide
  have cbd : n1 [c] < 2 ^ 94 := by
    show c.natAbs + 0 < 2 ^ 94
    exact pow_up (show c.natAbs + 0 < 2 ^ 10 by omega) (by decide)
  obtain ⟨_, _, rc, _⟩ := sc_len (U := [1]) c0 (fun x => by rw [pI_one, pI_one, z1, Rat.mul_one]) ct gd_one
  have I2 : IsG (rdc u) (rdc [c]) [1] 1 := by
    rw [rc]
    exact isg_const (Nat.le_refl 1)
  have D3 := dbk02 un cn ut ct (by omega) cl ub cbd I2 (by decide)
  have O1 := one02 un ut (by omega) ub
  refine st_seq (st_if (et_test (ev_op (ev_cb (ea_cons (ev_lst (ea_cons (ev_callP (ea_cons (ev_var rfl (ea_cons (ev_tup (ea_nil ⟨by simp, ea_nil ⟨⟨u, [], 94, rfl, .inr (.inl O1)⟩, fun d hd => ?_⟩⟩)))))))))))))
  obtain rfl := cd02a un hd
  refine ea_cons (ev_callP (ea_cons (ev_tup (ea_nil ⟨by simp, ea_cons (ev_var rfl (ea_nil ⟨⟨[], u, 94, rfl, .inr (.inr O1)⟩, fun d hd => ?_⟩))⟩))))
  obtain rfl := cd02b un hd
  refine ea_cons (ev_callP (ea_cons (ev_var rfl (ea_cons (ev_tup (ea_cons (ev_var rfl (ea_nil ⟨by simp, ea_nil ⟨⟨u, [c], 94, rfl, .inl D3⟩, fun d hd => ?_⟩⟩))))))))
  obtain rfl := cd02 I2 un cn hd
  refine ea_nil ⟨by simp, ?_⟩
  refine ea_nil (cok_show S4 rfl (by decide) (by decide) (ev_cb (ea_cons (ev_lst (ea_cons (ev_var rfl (ea_cons (ev_var rfl (ea_cons (ev_tup (ea_cons (ev_int (ea_nil ⟨by simp, ea_nil ⟨by simp, ea_nil (cok_show S4 rfl (by decide) (by decide) (rok_neS ⟨_, rfl, fun hb => (no_ne02 rfl hb).elim, fun _ => st_next ?_⟩))⟩⟩)))))))))))))
  refine st_seq (st_forL (ev_lst (ea_cons (ev_var rfl (ea_cons (ev_var rfl (ea_cons (ev_tup (ea_nil ⟨by simp, ea_cons (ev_tup (ea_cons (ev_var rfl (ea_nil ⟨by simp, ea_nil ⟨by simp, _, rfl, fun i L2 Γ2 => ∃ s9 s12 s13 : Sl, L2 = [] ∧ Γ2 = [.well w, .d (.list (bs.map facD)), .d (.list (os'.map facD)), .d (.list (ts'.map facD)), .d (.int c), .d (.int (1 + y)), .d (rowD u), .d (.list (m.map .int)), .d (rowD t), s9, .d (.list [rowD (rdc b), rowD (rdc b), rowD (rdc b)]), .d (rowD (rdc u)), s12, s13, .un], ⟨_, _, _, rfl, rfl⟩, ?_, ?_⟩⟩))))⟩)))))))))
  · rintro i d' L2 Γ2 g hi ⟨s9, s12, s13, rfl, rfl⟩
    obtain ⟨r, rfl, lr, nr, tr⟩ : ∃ r : List Int, d' = rowD r ∧ r.length ≤ 30 ∧ n1 r < 2 ^ 100 ∧ r.getLast? ≠ some 0 := by
      have hm := List.mem_of_getElem? hi
      simp only [List.mem_cons, List.not_mem_nil, or_false] at hm
      rcases hm with rfl | rfl | rfl | rfl
      · exact ⟨u, rfl, by omega, pow_up ub (by decide), ut⟩
      · exact ⟨t, rfl, by omega, pow_up tb (by decide), tt⟩
      · exact ⟨[], rfl, by decide, by decide, by simp⟩
      · exact ⟨[c], rfl, cl, pow_up cbd (by decide), ct⟩
    refine st_seq (st_asg (ev_callW rfl (ea_nil ⟨⟨trivial, rfl⟩, fun X ⟨x, ex, fx, x1, x2⟩ => ?_⟩)))
    subst ex
    refine st_seq (st_asg (ev_callP (ea_cons (ev_var rfl (ea_cons (ev_var rfl (ea_nil ⟨⟨r, x, rfl, lr, nr, tr, fx, x1, x2⟩, fun d ⟨r', x', a, e, ed, fa, va⟩ => ?_⟩)))))))
    obtain ⟨rfl, rfl⟩ := tx02 e
    subst ed
    obtain ⟨q1, q2⟩ := val_bd fx x1 x2 fa va lr nr
    have S5 := sho_l2 (sho_fr02 q1 q2) (sho_fr02 q1 q2)
    refine st_seq (st_if (et_test (ev_op (ev_cb (ea_cons (ev_lst (ea_cons (ev_callP (ea_cons (ev_var rfl (ea_cons (ev_var rfl (ea_nil ⟨⟨r, x, rfl, lr, nr, tr, fx, x1, x2⟩, fun d ⟨r', x', b1, e, ed, fb, vb⟩ => ?_⟩)))))))))))))
    obtain ⟨rfl, rfl⟩ := tx02 e
    obtain rfl : a = b1 := FOk.inj fa fb (by rw [va, vb])
    subst ed
    refine ea_cons (ev_callK0 (ea_cons (ev_var rfl (ea_cons (ev_var rfl (ea_nil ⟨⟨r, x, rfl, lr, nr, tr, fx, x1, x2⟩, fun d ⟨r', x', b1, e, ed, fb, vb⟩ => ?_⟩))))))
    obtain ⟨rfl, rfl⟩ := tx02 e
    obtain rfl : a = b1 := FOk.inj fa fb (by rw [va, vb])
    subst ed
    refine ea_nil ⟨by simp, ea_nil (cok_show S5 rfl (by decide) (by decide) (ev_cb (ea_cons (ev_lst (ea_cons (ev_var rfl (ea_cons (ev_var rfl (ea_nil ⟨by simp, ea_nil (cok_show S5 rfl (by decide) (by decide) (rok_neS ⟨_, rfl, fun hb => (no_ne02 rfl hb).elim, fun _ => st_next ?_⟩))⟩)))))))))⟩
    refine st_if (et_or (et_test (ev_op (ev_callP (ea_cons (ev_var rfl (ea_nil ⟨⟨rowD r, rfl, fun es e => ?_⟩, fun d ⟨v', ev, ed⟩ => ?_⟩)))))))
    · rw [← PyData.tuple.inj e, List.length_map]
      omega
    obtain rfl := (List.cons.inj ev).1
    rw [poly_ok tr] at ed
    subst ed
    refine ev_bl (rok_notB ⟨_, rfl, fun _ => ?_, fun hb => (by cases hb)⟩)
    refine et_test (ev_op (ev_callK0 (ea_cons (ev_callW rfl (ea_cons (ev_var rfl (ea_nil ⟨⟨r, rfl, lr⟩, fun d ⟨pf, pl⟩ => ?_⟩)))))))
    refine ea_nil ⟨⟨d, rfl, pl⟩, fun d2 ⟨v', ev, ed⟩ => ?_⟩
    obtain rfl := (List.cons.inj ev).1
    rw [pf] at ed
    subst ed
    exact ev_bl (rok_notB ⟨_, rfl, fun hb => (by cases hb), fun _ => st_next ⟨_, _, _, rfl, rfl⟩⟩)
  · rintro L2 Γ2 ⟨s9, s12, s13, rfl, rfl⟩
    exact st_ret (ev_bl rfl)
theorem ok__law_right (T : Tx K mg) : FnG P w K mg base 7 T.a__law_right T.d__law_right p__law_right (sp__law_right K) := by
  refine Fun.okG T.F__law_right sc__law_right (fun vs H Q E h => len__law_right K vs H Q E h) (fun cdv A outer s H vs Q E gd hr h => ?_)
  have hu := hr.units
  have hu5 := Nat.lt_of_le_of_lt (Nat.le_trans (Nat.add_le_add_left (show 65 ≤ 200 by decide) _) (Nat.add_le_add_right (Nat.le_add_right _ _) 200)) hr.un
  exact ⟨t__law_right K, (pss_cons (ps_asg (pe_tup (pa_cons (pe_call (ok__law_roots_built T) (hr.mono (by decide)) rfl T.g__law_roots_built T.F__law_roots_built.kp (b__law_roots_built T) .nil pass0 (pa_cons (pv 0) (pa_cons pe_int (pa_cons pe_int pa_nil)))) (pa_cons (pe_call (ok__law_roots_built T) (hr.mono (by decide)) rfl T.g__law_roots_built T.F__law_roots_built.kp (b__law_roots_built T) .nil pass0 (pa_cons (pv 0) (pa_cons pe_int (pa_cons pe_int pa_nil)))) (pa_cons (pe_call (ok__law_roots_built T) (hr.mono (by decide)) rfl T.g__law_roots_built T.F__law_roots_built.kp (b__law_roots_built T) .nil pass0 (pa_cons (pv 0) (pa_cons pe_int (pa_cons pe_int pa_nil)))) pa_nil)))) (pg_tup (by rfl) (pgs_cons (pg_name (i := 1) sc__law_right.nd rfl (Or.inr rfl)) (pgs_cons (pg_name (i := 2) sc__law_right.nd rfl (Or.inr rfl)) (pgs_cons (pg_name (i := 3) sc__law_right.nd rfl (Or.inl rfl)) pgs_nil)))))
  (pss_cons (ps_par (by rfl) sc__law_right.nd rfl rfl (by decide) rfl rfl (pa_cons (pe_call (ok__law_one T) (hr.mono (by decide)) rfl T.g__law_one T.F__law_one.kp (b__law_one T) .nil pass0 (pa_cons (pv 0) (pa_cons (pe_lst (pa_cons pe_int (pa_cons (pe_un un_neg pe_int) (pa_cons pe_int (pa_cons (pe_un un_neg pe_int) (pa_cons pe_int pa_nil)))))) pa_nil))) (pa_cons (pe_op op_addA pe_int (pe_call (ok__law_pull T) (hr.mono (by decide)) rfl T.g__law_pull T.F__law_pull.kp (b__law_pull T) .nil pass0 (pa_cons (pv 0) (pa_cons pe_int pa_nil)))) pa_nil)) (by rfl))
  (pss_cons (ps_set (i := 2) sc__law_right.nd rfl (Or.inr rfl) (pe_lc (own := [("_law_each", 14)]) (by rfl) sc__law_right.nd (pi_list (pv 2)) (blkOk_by (own := [("_law_each", 14)]) (N := N__law_right) (sc := defScope s__law_right) (by decide +kernel)) (fun _ _ _ _ _ => pg_name (i := 14) sc__law_right.nd rfl (Or.inl rfl)) (fun _ _ _ _ _ => (pts_one (pt_cmpR (op_notInD hu5) (pe_ix ix_seq (pv 14) pe_int (fun _ _ => rfl)) (pe_lc (own := [("_law_one_here", 6)]) (by rfl) sc__law_right.nd (pi_list (pv 1)) (blkOk_by (own := [("_law_one_here", 6)]) (N := N__law_right) (sc := sx__law_right_0) (by decide +kernel)) (fun _ _ _ _ _ => pg_name (i := 6) sc__law_right.nd rfl (Or.inl rfl)) (fun _ _ _ _ _ => pts_nil) (fun _ _ _ _ _ => (pe_ix ix_seq (pv 6) pe_int (fun _ _ => rfl)))) (by rfl)))) (fun _ _ _ _ _ => (pv 14))))
  (pss_cons (ps_setLc (i := 3) (own := [("_law_each", 14)]) (by rfl) sc__law_right.nd rfl rfl (sw_true rfl rfl rfl (by decide +kernel)) (pi_list (pv 3)) (blkOk_by (own := [("_law_each", 14)]) (N := N__law_right) (sc := defScope s__law_right) (by decide +kernel)) (fun _ _ _ _ _ => pg_name (i := 14) sc__law_right.nd rfl (Or.inl rfl)) (fun _ _ _ _ _ => (pts_one (pt_cmpR (op_notInD hu5) (pe_ix ix_seq (pv 14) pe_int (fun _ _ => rfl)) (pe_lc (own := [("_law_one_here", 6)]) (by rfl) sc__law_right.nd (pi_list (pe_op op_addA (pv 1) (pv 2))) (blkOk_by (own := [("_law_one_here", 6)]) (N := N__law_right) (sc := sx__law_right_2) (by decide +kernel)) (fun _ _ _ _ _ => pg_name (i := 6) sc__law_right.nd rfl (Or.inl rfl)) (fun _ _ _ _ _ => pts_nil) (fun _ _ _ _ _ => (pe_ix ix_seq (pv 6) pe_int (fun _ _ => rfl)))) (by rfl)))) (fun _ _ _ _ _ => (pv 14)))
  (pss_cons (ps_par (by rfl) sc__law_right.nd rfl rfl (by decide) rfl rfl (pa_cons (pe_callTy call_tuple_of (by rfl) T.n_tuple (by decide +kernel) (pa_cons (pe_call (ok__law_built T) (hr.mono (by decide)) rfl T.g__law_built T.F__law_built.kp (b__law_built T) .nil pass0 (pa_cons (pe_op op_addA (pv 1) (pv 2)) (pa_cons (pv 4) pa_nil))) pa_nil)) (pa_cons (pe_ifExp (pt_cmpR op_eq (pv 5) pe_int (nomark _)) (pe_call (ok__law_built T) (hr.mono (by decide)) rfl T.g__law_built T.F__law_built.kp (b__law_built T) .nil pass0 (pa_cons (pv 1) (pa_cons pe_int pa_nil))) (pe_lst (pa_cons pe_int pa_nil))) pa_nil)) (by rfl))
  (pss_cons (ps_set (i := 8) sc__law_right.nd rfl (Or.inl rfl) (pe_callTy call_tuple_of (by rfl) T.n_tuple (by decide +kernel) (pa_cons (pe_call (ok__law_product T) (hr.mono (by decide)) rfl T.g__law_product T.F__law_product.kp (b__law_product T) .nil pass0 (pa_cons (pe_call (ok__law_built T) (hr.mono (by decide)) rfl T.g__law_built T.F__law_built.kp (b__law_built T) .nil pass0 (pa_cons (pe_op op_addA (pv 1) (pv 3)) (pa_cons pe_int pa_nil))) (pa_cons (pv 7) pa_nil))) pa_nil)))
  (pss_cons (ps_set (i := 9) sc__law_right.nd rfl (Or.inl rfl) (pe_callTy call_tuple_of (by rfl) T.n_tuple (by decide +kernel) (pa_cons (pe_call (ok__law_upright T) (hr.mono (by decide)) rfl T.g__law_upright T.F__law_upright.kp (b__law_upright T) .nil pass0 (pa_cons (pe_call (ok__law_built T) (hr.mono (by decide)) rfl T.g__law_built T.F__law_built.kp (b__law_built T) .nil pass0 (pa_cons (pv 1) (pa_cons pe_int pa_nil))) pa_nil)) pa_nil)))
  (pss_cons (ps_set (i := 10) sc__law_right.nd rfl (Or.inl rfl) (pe_lst (pa_cons (pe_call (ok_common_divisor T) (hr.mono (by decide)) rfl T.g_common_divisor T.F_common_divisor.kp (b_common_divisor T) .nil pass0 (pa_cons (pv 6) (pa_cons (pv 8) pa_nil))) (pa_cons (pe_call (ok_common_divisor T) (hr.mono (by decide)) rfl T.g_common_divisor T.F_common_divisor.kp (b_common_divisor T) .nil pass0 (pa_cons (pv 8) (pa_cons (pv 6) pa_nil))) (pa_cons (pe_callK0 (ok_common_divisor T) (hr.mono (by decide)) rfl T.g_common_divisor T.F_common_divisor.kp (kb_common_divisor T) pass0 (pk_cons (pv 6) (pk_cons (pv 8) pk_nil))) pa_nil)))))
  (pss_cons (ps_if (pt_cmpR op_ne (pe_callB (call_reprD hu gd) (by rfl) T.n_repr (by decide +kernel) (pa_cons (pv 10) pa_nil)) (pe_callB (call_reprD hu gd) (by rfl) T.n_repr (by decide +kernel) (pa_cons (pe_lst (pa_cons (pv 9) (pa_cons (pv 9) (pa_cons (pv 9) pa_nil)))) pa_nil)) (nomark _)) (pss_one (ps_ret pe_bl)) pss_nil)
  (pss_cons (ps_set (i := 11) sc__law_right.nd rfl (Or.inl rfl) (pe_callTy call_tuple_of (by rfl) T.n_tuple (by decide +kernel) (pa_cons (pe_call (ok__law_upright T) (hr.mono (by decide)) rfl T.g__law_upright T.F__law_upright.kp (b__law_upright T) .nil pass0 (pa_cons (pv 6) pa_nil)) pa_nil)))
  (pss_cons (ps_if (pt_cmpR op_ne (pe_callB (call_reprD hu gd) (by rfl) T.n_repr (by decide +kernel) (pa_cons (pe_lst (pa_cons (pe_call (ok_common_divisor T) (hr.mono (by decide)) rfl T.g_common_divisor T.F_common_divisor.kp (b_common_divisor T) .nil pass0 (pa_cons (pv 6) (pa_cons (pe_tup pa_nil) pa_nil))) (pa_cons (pe_call (ok_common_divisor T) (hr.mono (by decide)) rfl T.g_common_divisor T.F_common_divisor.kp (b_common_divisor T) .nil pass0 (pa_cons (pe_tup pa_nil) (pa_cons (pv 6) pa_nil))) (pa_cons (pe_call (ok_common_divisor T) (hr.mono (by decide)) rfl T.g_common_divisor T.F_common_divisor.kp (b_common_divisor T) .nil pass0 (pa_cons (pv 6) (pa_cons (pe_tup (pa_cons (pv 4) pa_nil)) pa_nil))) pa_nil)))) pa_nil)) (pe_callB (call_reprD hu gd) (by rfl) T.n_repr (by decide +kernel) (pa_cons (pe_lst (pa_cons (pv 11) (pa_cons (pv 11) (pa_cons (pe_tup (pa_cons pe_int pa_nil)) pa_nil)))) pa_nil)) (nomark _)) (pss_one (ps_ret pe_bl)) pss_nil)
  (pss_cons (ps_for PassesOwn.never rfl (pi_list (pe_lst (pa_cons (pv 6) (pa_cons (pv 8) (pa_cons (pe_tup pa_nil) (pa_cons (pe_tup (pa_cons (pv 4) pa_nil)) pa_nil)))))) (pg_name (i := 12) sc__law_right.nd rfl (Or.inl rfl)) (pss_cons (ps_set (i := 13) sc__law_right.nd rfl (Or.inl rfl) (pe_call (ok__law_any_fraction T) (hr.mono (by decide)) rfl T.g__law_any_fraction T.F__law_any_fraction.kp (b__law_any_fraction T) .nil pass0 (pa_cons (pv 0) pa_nil)))
  (pss_cons (ps_set (i := 9) sc__law_right.nd rfl (Or.inl rfl) (pe_call (ok__law_value T) (hr.mono (by decide)) rfl T.g__law_value T.F__law_value.kp (b__law_value T) .nil pass0 (pa_cons (pv 12) (pa_cons (pv 13) pa_nil))))
  (pss_cons (ps_if (pt_cmpR op_ne (pe_callB (call_reprD hu gd) (by rfl) T.n_repr (by decide +kernel) (pa_cons (pe_lst (pa_cons (pe_call (ok_value_at T) (hr.mono (by decide)) rfl T.g_value_at T.F_value_at.kp (b_value_at T) .nil pass0 (pa_cons (pv 12) (pa_cons (pv 13) pa_nil))) (pa_cons (pe_callK0 (ok_value_at T) (hr.mono (by decide)) rfl T.g_value_at T.F_value_at.kp (kb_value_at T) pass0 (pk_cons (pv 12) (pk_cons (pv 13) pk_nil))) pa_nil))) pa_nil)) (pe_callB (call_reprD hu gd) (by rfl) T.n_repr (by decide +kernel) (pa_cons (pe_lst (pa_cons (pv 9) (pa_cons (pv 9) pa_nil))) pa_nil)) (nomark _)) (pss_one (ps_ret pe_bl)) pss_nil)
  (pss_one (ps_if (PW.pt (pw_or (pt_cmpR op_notBl (pe_call (ok_is_polynomial T) (hr.mono (by decide)) rfl T.g_is_polynomial T.F_is_polynomial.kp (b_is_polynomial T) .nil pass0 (pa_cons (pv 12) pa_nil)) pe_bl (nomark _)) (pw_or1 (pt_cmpR op_notBl (pe_callK0 (ok_is_polynomial T) (hr.mono (by decide)) rfl T.g_is_polynomial T.F_is_polynomial.kp (kb_is_polynomial T) pass0 (pk_cons (pe_call (ok__law_bent T) (hr.mono (by decide)) rfl T.g__law_bent T.F__law_bent.kp (b__law_bent T) .nil pass0 (pa_cons (pv 0) (pa_cons (pv 12) pa_nil))) pk_nil)) pe_bl (nomark _))))) (pss_one (ps_ret pe_bl)) pss_nil))))))
  (pss_one (ps_ret pe_bl)))))))))))))), pure__law_right K vs H Q E h⟩
/-! ### law -/
def sp_law (K : PySem.W.Frag) : Sp := fun vs H Q _ => ∃ (a : Addr) (ns : List Int), vs = [.ref a] ∧ SqL K H a (ns.map V.int) ∧ ns.length ≤ 63 ∧ ∀ H', Q (.bl true) H'
theorem len_law (K : PySem.W.Frag) (vs : List V) (H : Hp) (Q : VK) (E : XK) (h : sp_law K vs H Q E) : vs.length = p_law.length := by
  obtain ⟨a, ns, rfl, _⟩ := h
  rfl
def t_law (K : PySem.W.Frag) : TS :=
  (tSeq (tFor (iRng1 (tCons (tC (.int 2)) tNil)) (gName 1) (tIfS (tNot (tB (tCall (sp__law_right K) [] E0 (tCons (tCall (sp__law_well K) [] E0 (tCons (tVar 0) (tCons (tVar 1) tNil))) tNil)))) (tRet (tC (.bl false))) tNext))
  (tRet (tC (.bl true))))
theorem pure_law (K : PySem.W.Frag) (vs : List V) (H : Hp) (Q : VK) (E : XK) (h : sp_law K vs H Q E) : t_law K { nx := fun _ H' => Q .non H', rt := Q } (L2.start N_law vs) H := by
  obtain ⟨a, ns, rfl, hS, hlen, q⟩ := h
  unfold t_law
  refine ⟨2, rfl, by decide, by decide, for_range (lo := 0) (n := 2) (fun i σ H' => ∃ v : Option V, σ = [some (.ref a), v] ∧ SqL K H' a (ns.map V.int)) ⟨none, rfl, hS⟩ (fun i σ H' hi ⟨v, e, hS'⟩ => ?_) (fun σ H' _ => q H')⟩
  subst e
  refine ⟨_, rfl, _, rfl, ?_⟩
  have e0 : (0 : Int) + (i : Int) = (i : Int) := Int.zero_add _
  rw [e0]
  have key : ∀ R : VK, (∀ p H1, Same H' H1 → H' p = none → WellAt H1 p → R (.ref p) H1) → sp__law_well K [.ref a, .int (i : Int)] H' R E0 := fun R hR => ⟨a, ns, i, rfl, hS', hlen, by omega, hR⟩
  unfold tNil
  refine key _ fun p H1 s hp hw => ?_
  show sp__law_right K [.ref p] H1 _ E0
  refine ⟨[p], p, [], [], rfl, List.mem_singleton.mpr rfl, hw, fun m hm => ?_, .nil, ⟨trivial, rfl⟩, fun v d H2 hk _ dn hd => ?_⟩
  · rw [List.mem_singleton.mp hm]
    obtain ⟨n, b, c, e, _⟩ := hw
    exact ⟨_, e⟩
  · rw [show d = .bool true from hd] at dn
    rw [dn_bool dn]
    refine ⟨true, rfl, ?_⟩
    refine iteF ⟨_, rfl, ?_⟩
    rcases hS' with (h1 | ⟨o, h1⟩) | h1
    · exact .inl (.inl (hk a _ (fun z => by rw [z, hp] at h1; cases h1) (s _ _ h1)))
    · exact .inl (.inr ⟨o, hk a _ (fun z => by rw [z, hp] at h1; cases h1) (s _ _ h1)⟩)
    · exact .inr h1
theorem ok_law (T : Tx K mg) : FnG P w K mg base 8 T.a_law T.d_law p_law (sp_law K) := by
  refine Fun.okG T.F_law sc_law (fun vs H Q E h => len_law K vs H Q E h) (fun cdv A outer s H vs Q E gd hr h => ?_)
  exact ⟨t_law K, (pss_cons (ps_for PassesOwn.never rfl (pi_range1 (by rfl) T.n_range (pa_cons pe_int pa_nil)) (pg_name (i := 1) sc_law.nd rfl (Or.inl rfl)) (pss_one (ps_if (pt_not (pt_val (pe_callG (ok__law_right T) (hr.mono (by decide)) gd rfl T.g__law_right T.F__law_right.kp (b__law_right T) (pa_cons (pe_call (ok__law_well T) (hr.mono (by decide)) rfl T.g__law_well T.F__law_well.kp (b__law_well T) .nil pass0 (pa_cons (pv 0) (pa_cons (pv 1) pa_nil))) pa_nil)))) (pss_one (ps_ret pe_bl)) pss_nil)))
  (pss_one (ps_ret pe_bl))), pure_law K vs H Q E h⟩
end
theorem all_mk {l : PySem.W.OpenLaw} {w : World} {K : PySem.W.Frag} {h : Heap} {mg : Str → Option Value} {fa : Addr} (X : K.In h) (G : h.Ns mainGlobals mg) (hfa : mg "law" = some (.ref fa))
    {f_is_whole f_is_fraction f_lowest f_inverse_modulo f_trimmed f_blend f_content f_shrunk f_thinned f_reduced f_whole_quotient f_scaled_value f_fraction_value f_rest_modulo f_divisor_modulo f_guessed_divisor f_divisor_by_rests f_divisor_of_both f_is_polynomial f_check_polynomial f_check_fraction f_value_at f_common_divisor f__law_well f__law_pull f__law_one f__law_gcd f__law_cut f__law_add f__law_by f__law_amount f__law_any_fraction f__law_trim f__law_product f__law_light f__law_upright f__law_roots_built f__law_built f__law_value f__law_bent f__law_right f_law  : Addr} {od_is_whole an_is_whole od_is_fraction an_is_fraction od_lowest an_lowest od_inverse_modulo an_inverse_modulo od_trimmed an_trimmed od_blend an_blend od_content an_content od_shrunk an_shrunk od_thinned an_thinned od_reduced an_reduced od_whole_quotient an_whole_quotient od_scaled_value an_scaled_value od_fraction_value an_fraction_value od_rest_modulo an_rest_modulo od_divisor_modulo an_divisor_modulo od_guessed_divisor an_guessed_divisor od_divisor_by_rests an_divisor_by_rests od_divisor_of_both an_divisor_of_both od_is_polynomial an_is_polynomial od_check_polynomial an_check_polynomial od_check_fraction an_check_fraction od_value_at an_value_at od_common_divisor an_common_divisor od__law_well an__law_well od__law_pull an__law_pull od__law_one an__law_one od__law_gcd an__law_gcd od__law_cut an__law_cut od__law_add an__law_add od__law_by an__law_by od__law_amount an__law_amount od__law_any_fraction an__law_any_fraction od__law_trim an__law_trim od__law_product an__law_product od__law_light an__law_light od__law_upright an__law_upright od__law_roots_built an__law_roots_built od__law_built an__law_built od__law_value an__law_value od__law_bent an__law_bent od__law_right an__law_right od_law an_law : Option Addr} {sl_is_whole sl_is_fraction sl_lowest sl_inverse_modulo sl_trimmed sl_blend sl_content sl_shrunk sl_thinned sl_reduced sl_whole_quotient sl_scaled_value sl_fraction_value sl_rest_modulo sl_divisor_modulo sl_guessed_divisor sl_divisor_by_rests sl_divisor_of_both sl_is_polynomial sl_check_polynomial sl_check_fraction sl_value_at sl_common_divisor sl__law_well sl__law_pull sl__law_one sl__law_gcd sl__law_cut sl__law_add sl__law_by sl__law_amount sl__law_any_fraction sl__law_trim sl__law_product sl__law_light sl__law_upright sl__law_roots_built sl__law_built sl__law_value sl__law_bent sl__law_right sl_law : Array (Option Value)} {oc_is_whole kV_is_whole dc_is_whole pm_is_whole cd_is_whole ct_is_whole oc_is_fraction kV_is_fraction dc_is_fraction pm_is_fraction cd_is_fraction ct_is_fraction oc_lowest kV_lowest dc_lowest pm_lowest cd_lowest ct_lowest oc_inverse_modulo kV_inverse_modulo dc_inverse_modulo pm_inverse_modulo cd_inverse_modulo ct_inverse_modulo oc_trimmed kV_trimmed dc_trimmed pm_trimmed cd_trimmed ct_trimmed oc_blend kV_blend dc_blend pm_blend cd_blend ct_blend oc_content kV_content dc_content pm_content cd_content ct_content oc_shrunk kV_shrunk dc_shrunk pm_shrunk cd_shrunk ct_shrunk oc_thinned kV_thinned dc_thinned pm_thinned cd_thinned ct_thinned oc_reduced kV_reduced dc_reduced pm_reduced cd_reduced ct_reduced oc_whole_quotient kV_whole_quotient dc_whole_quotient pm_whole_quotient cd_whole_quotient ct_whole_quotient oc_scaled_value kV_scaled_value dc_scaled_value pm_scaled_value cd_scaled_value ct_scaled_value oc_fraction_value kV_fraction_value dc_fraction_value pm_fraction_value cd_fraction_value ct_fraction_value oc_rest_modulo kV_rest_modulo dc_rest_modulo pm_rest_modulo cd_rest_modulo ct_rest_modulo oc_divisor_modulo kV_divisor_modulo dc_divisor_modulo pm_divisor_modulo cd_divisor_modulo ct_divisor_modulo oc_guessed_divisor kV_guessed_divisor dc_guessed_divisor pm_guessed_divisor cd_guessed_divisor ct_guessed_divisor oc_divisor_by_rests kV_divisor_by_rests dc_divisor_by_rests pm_divisor_by_rests cd_divisor_by_rests ct_divisor_by_rests oc_divisor_of_both kV_divisor_of_both dc_divisor_of_both pm_divisor_of_both cd_divisor_of_both ct_divisor_of_both oc_is_polynomial kV_is_polynomial dc_is_polynomial pm_is_polynomial cd_is_polynomial ct_is_polynomial oc_check_polynomial kV_check_polynomial dc_check_polynomial pm_check_polynomial cd_check_polynomial ct_check_polynomial oc_check_fraction kV_check_fraction dc_check_fraction pm_check_fraction cd_check_fraction ct_check_fraction oc_value_at kV_value_at dc_value_at pm_value_at cd_value_at ct_value_at oc_common_divisor kV_common_divisor dc_common_divisor pm_common_divisor cd_common_divisor ct_common_divisor oc__law_well kV__law_well dc__law_well pm__law_well cd__law_well ct__law_well oc__law_pull kV__law_pull dc__law_pull pm__law_pull cd__law_pull ct__law_pull oc__law_one kV__law_one dc__law_one pm__law_one cd__law_one ct__law_one oc__law_gcd kV__law_gcd dc__law_gcd pm__law_gcd cd__law_gcd ct__law_gcd oc__law_cut kV__law_cut dc__law_cut pm__law_cut cd__law_cut ct__law_cut oc__law_add kV__law_add dc__law_add pm__law_add cd__law_add ct__law_add oc__law_by kV__law_by dc__law_by pm__law_by cd__law_by ct__law_by oc__law_amount kV__law_amount dc__law_amount pm__law_amount cd__law_amount ct__law_amount oc__law_any_fraction kV__law_any_fraction dc__law_any_fraction pm__law_any_fraction cd__law_any_fraction ct__law_any_fraction oc__law_trim kV__law_trim dc__law_trim pm__law_trim cd__law_trim ct__law_trim oc__law_product kV__law_product dc__law_product pm__law_product cd__law_product ct__law_product oc__law_light kV__law_light dc__law_light pm__law_light cd__law_light ct__law_light oc__law_upright kV__law_upright dc__law_upright pm__law_upright cd__law_upright ct__law_upright oc__law_roots_built kV__law_roots_built dc__law_roots_built pm__law_roots_built cd__law_roots_built ct__law_roots_built oc__law_built kV__law_built dc__law_built pm__law_built cd__law_built ct__law_built oc__law_value kV__law_value dc__law_value pm__law_value cd__law_value ct__law_value oc__law_bent kV__law_bent dc__law_bent pm__law_bent cd__law_bent ct__law_bent oc__law_right kV__law_right dc__law_right pm__law_right cd__law_right ct__law_right oc_law kV_law dc_law pm_law cd_law ct_law : Value} {k_PRIME_BITS : Addr} {od_PRIME_BITS : Option Addr} {n_PRIME_BITS : Nat} {sl_PRIME_BITS : Array (Option Value)} {ta0_PRIME_BITS ta1_PRIME_BITS ta2_PRIME_BITS ta3_PRIME_BITS ta4_PRIME_BITS ta5_PRIME_BITS ta6_PRIME_BITS ta7_PRIME_BITS : Tok}
    (a_is_whole : PySem.W.nsIn K mainGlobals "is_whole" = some (some (.ref f_is_whole)))
    (l_is_whole : K.lookup f_is_whole = some ⟨oc_is_whole, od_is_whole, .func (PySem.W.fnOf "is_whole" "is_whole" (defArgs s_is_whole) (defBody s_is_whole) (defScope s_is_whole) .none kV_is_whole dc_is_whole pm_is_whole an_is_whole cd_is_whole ct_is_whole), sl_is_whole⟩)
    (c_is_whole : PySem.W.codeIn K cd_is_whole "is_whole" = true)
    (k_is_whole : PySem.W.keepIn K (.ref f_is_whole) = true)
    (a_is_fraction : PySem.W.nsIn K mainGlobals "is_fraction" = some (some (.ref f_is_fraction)))
    (l_is_fraction : K.lookup f_is_fraction = some ⟨oc_is_fraction, od_is_fraction, .func (PySem.W.fnOf "is_fraction" "is_fraction" (defArgs s_is_fraction) (defBody s_is_fraction) (defScope s_is_fraction) .none kV_is_fraction dc_is_fraction pm_is_fraction an_is_fraction cd_is_fraction ct_is_fraction), sl_is_fraction⟩)
    (c_is_fraction : PySem.W.codeIn K cd_is_fraction "is_fraction" = true)
    (k_is_fraction : PySem.W.keepIn K (.ref f_is_fraction) = true)
    (a_lowest : PySem.W.nsIn K mainGlobals "lowest" = some (some (.ref f_lowest)))
    (l_lowest : K.lookup f_lowest = some ⟨oc_lowest, od_lowest, .func (PySem.W.fnOf "lowest" "lowest" (defArgs s_lowest) (defBody s_lowest) (defScope s_lowest) .none kV_lowest dc_lowest pm_lowest an_lowest cd_lowest ct_lowest), sl_lowest⟩)
    (c_lowest : PySem.W.codeIn K cd_lowest "lowest" = true)
    (k_lowest : PySem.W.keepIn K (.ref f_lowest) = true)
    (a_inverse_modulo : PySem.W.nsIn K mainGlobals "inverse_modulo" = some (some (.ref f_inverse_modulo)))
    (l_inverse_modulo : K.lookup f_inverse_modulo = some ⟨oc_inverse_modulo, od_inverse_modulo, .func (PySem.W.fnOf "inverse_modulo" "inverse_modulo" (defArgs s_inverse_modulo) (defBody s_inverse_modulo) (defScope s_inverse_modulo) .none kV_inverse_modulo dc_inverse_modulo pm_inverse_modulo an_inverse_modulo cd_inverse_modulo ct_inverse_modulo), sl_inverse_modulo⟩)
    (c_inverse_modulo : PySem.W.codeIn K cd_inverse_modulo "inverse_modulo" = true)
    (k_inverse_modulo : PySem.W.keepIn K (.ref f_inverse_modulo) = true)
    (a_trimmed : PySem.W.nsIn K mainGlobals "trimmed" = some (some (.ref f_trimmed)))
    (l_trimmed : K.lookup f_trimmed = some ⟨oc_trimmed, od_trimmed, .func (PySem.W.fnOf "trimmed" "trimmed" (defArgs s_trimmed) (defBody s_trimmed) (defScope s_trimmed) .none kV_trimmed dc_trimmed pm_trimmed an_trimmed cd_trimmed ct_trimmed), sl_trimmed⟩)
    (c_trimmed : PySem.W.codeIn K cd_trimmed "trimmed" = true)
    (k_trimmed : PySem.W.keepIn K (.ref f_trimmed) = true)
    (a_blend : PySem.W.nsIn K mainGlobals "blend" = some (some (.ref f_blend)))
    (l_blend : K.lookup f_blend = some ⟨oc_blend, od_blend, .func (PySem.W.fnOf "blend" "blend" (defArgs s_blend) (defBody s_blend) (defScope s_blend) .none kV_blend dc_blend pm_blend an_blend cd_blend ct_blend), sl_blend⟩)
    (c_blend : PySem.W.codeIn K cd_blend "blend" = true)
    (k_blend : PySem.W.keepIn K (.ref f_blend) = true)
    (a_content : PySem.W.nsIn K mainGlobals "content" = some (some (.ref f_content)))
    (l_content : K.lookup f_content = some ⟨oc_content, od_content, .func (PySem.W.fnOf "content" "content" (defArgs s_content) (defBody s_content) (defScope s_content) .none kV_content dc_content pm_content an_content cd_content ct_content), sl_content⟩)
    (c_content : PySem.W.codeIn K cd_content "content" = true)
    (k_content : PySem.W.keepIn K (.ref f_content) = true)
    (a_shrunk : PySem.W.nsIn K mainGlobals "shrunk" = some (some (.ref f_shrunk)))
    (l_shrunk : K.lookup f_shrunk = some ⟨oc_shrunk, od_shrunk, .func (PySem.W.fnOf "shrunk" "shrunk" (defArgs s_shrunk) (defBody s_shrunk) (defScope s_shrunk) .none kV_shrunk dc_shrunk pm_shrunk an_shrunk cd_shrunk ct_shrunk), sl_shrunk⟩)
    (c_shrunk : PySem.W.codeIn K cd_shrunk "shrunk" = true)
    (k_shrunk : PySem.W.keepIn K (.ref f_shrunk) = true)
    (a_thinned : PySem.W.nsIn K mainGlobals "thinned" = some (some (.ref f_thinned)))
    (l_thinned : K.lookup f_thinned = some ⟨oc_thinned, od_thinned, .func (PySem.W.fnOf "thinned" "thinned" (defArgs s_thinned) (defBody s_thinned) (defScope s_thinned) .none kV_thinned dc_thinned pm_thinned an_thinned cd_thinned ct_thinned), sl_thinned⟩)
    (c_thinned : PySem.W.codeIn K cd_thinned "thinned" = true)
    (k_thinned : PySem.W.keepIn K (.ref f_thinned) = true)
    (a_reduced : PySem.W.nsIn K mainGlobals "reduced" = some (some (.ref f_reduced)))
    (l_reduced : K.lookup f_reduced = some ⟨oc_reduced, od_reduced, .func (PySem.W.fnOf "reduced" "reduced" (defArgs s_reduced) (defBody s_reduced) (defScope s_reduced) .none kV_reduced dc_reduced pm_reduced an_reduced cd_reduced ct_reduced), sl_reduced⟩)
    (c_reduced : PySem.W.codeIn K cd_reduced "reduced" = true)
    (k_reduced : PySem.W.keepIn K (.ref f_reduced) = true)
    (a_whole_quotient : PySem.W.nsIn K mainGlobals "whole_quotient" = some (some (.ref f_whole_quotient)))
    (l_whole_quotient : K.lookup f_whole_quotient = some ⟨oc_whole_quotient, od_whole_quotient, .func (PySem.W.fnOf "whole_quotient" "whole_quotient" (defArgs s_whole_quotient) (defBody s_whole_quotient) (defScope s_whole_quotient) .none kV_whole_quotient dc_whole_quotient pm_whole_quotient an_whole_quotient cd_whole_quotient ct_whole_quotient), sl_whole_quotient⟩)
    (c_whole_quotient : PySem.W.codeIn K cd_whole_quotient "whole_quotient" = true)
    (k_whole_quotient : PySem.W.keepIn K (.ref f_whole_quotient) = true)
    (a_scaled_value : PySem.W.nsIn K mainGlobals "scaled_value" = some (some (.ref f_scaled_value)))
    (l_scaled_value : K.lookup f_scaled_value = some ⟨oc_scaled_value, od_scaled_value, .func (PySem.W.fnOf "scaled_value" "scaled_value" (defArgs s_scaled_value) (defBody s_scaled_value) (defScope s_scaled_value) .none kV_scaled_value dc_scaled_value pm_scaled_value an_scaled_value cd_scaled_value ct_scaled_value), sl_scaled_value⟩)
    (c_scaled_value : PySem.W.codeIn K cd_scaled_value "scaled_value" = true)
    (k_scaled_value : PySem.W.keepIn K (.ref f_scaled_value) = true)
    (a_fraction_value : PySem.W.nsIn K mainGlobals "fraction_value" = some (some (.ref f_fraction_value)))
    (l_fraction_value : K.lookup f_fraction_value = some ⟨oc_fraction_value, od_fraction_value, .func (PySem.W.fnOf "fraction_value" "fraction_value" (defArgs s_fraction_value) (defBody s_fraction_value) (defScope s_fraction_value) .none kV_fraction_value dc_fraction_value pm_fraction_value an_fraction_value cd_fraction_value ct_fraction_value), sl_fraction_value⟩)
    (c_fraction_value : PySem.W.codeIn K cd_fraction_value "fraction_value" = true)
    (k_fraction_value : PySem.W.keepIn K (.ref f_fraction_value) = true)
    (a_rest_modulo : PySem.W.nsIn K mainGlobals "rest_modulo" = some (some (.ref f_rest_modulo)))
    (l_rest_modulo : K.lookup f_rest_modulo = some ⟨oc_rest_modulo, od_rest_modulo, .func (PySem.W.fnOf "rest_modulo" "rest_modulo" (defArgs s_rest_modulo) (defBody s_rest_modulo) (defScope s_rest_modulo) .none kV_rest_modulo dc_rest_modulo pm_rest_modulo an_rest_modulo cd_rest_modulo ct_rest_modulo), sl_rest_modulo⟩)
    (c_rest_modulo : PySem.W.codeIn K cd_rest_modulo "rest_modulo" = true)
    (k_rest_modulo : PySem.W.keepIn K (.ref f_rest_modulo) = true)
    (a_divisor_modulo : PySem.W.nsIn K mainGlobals "divisor_modulo" = some (some (.ref f_divisor_modulo)))
    (l_divisor_modulo : K.lookup f_divisor_modulo = some ⟨oc_divisor_modulo, od_divisor_modulo, .func (PySem.W.fnOf "divisor_modulo" "divisor_modulo" (defArgs s_divisor_modulo) (defBody s_divisor_modulo) (defScope s_divisor_modulo) .none kV_divisor_modulo dc_divisor_modulo pm_divisor_modulo an_divisor_modulo cd_divisor_modulo ct_divisor_modulo), sl_divisor_modulo⟩)
    (c_divisor_modulo : PySem.W.codeIn K cd_divisor_modulo "divisor_modulo" = true)
    (k_divisor_modulo : PySem.W.keepIn K (.ref f_divisor_modulo) = true)
    (a_guessed_divisor : PySem.W.nsIn K mainGlobals "guessed_divisor" = some (some (.ref f_guessed_divisor)))
    (l_guessed_divisor : K.lookup f_guessed_divisor = some ⟨oc_guessed_divisor, od_guessed_divisor, .func (PySem.W.fnOf "guessed_divisor" "guessed_divisor" (defArgs s_guessed_divisor) (defBody s_guessed_divisor) (defScope s_guessed_divisor) .none kV_guessed_divisor dc_guessed_divisor pm_guessed_divisor an_guessed_divisor cd_guessed_divisor ct_guessed_divisor), sl_guessed_divisor⟩)
    (c_guessed_divisor : PySem.W.codeIn K cd_guessed_divisor "guessed_divisor" = true)
    (k_guessed_divisor : PySem.W.keepIn K (.ref f_guessed_divisor) = true)
    (a_divisor_by_rests : PySem.W.nsIn K mainGlobals "divisor_by_rests" = some (some (.ref f_divisor_by_rests)))
    (l_divisor_by_rests : K.lookup f_divisor_by_rests = some ⟨oc_divisor_by_rests, od_divisor_by_rests, .func (PySem.W.fnOf "divisor_by_rests" "divisor_by_rests" (defArgs s_divisor_by_rests) (defBody s_divisor_by_rests) (defScope s_divisor_by_rests) .none kV_divisor_by_rests dc_divisor_by_rests pm_divisor_by_rests an_divisor_by_rests cd_divisor_by_rests ct_divisor_by_rests), sl_divisor_by_rests⟩)
    (c_divisor_by_rests : PySem.W.codeIn K cd_divisor_by_rests "divisor_by_rests" = true)
    (k_divisor_by_rests : PySem.W.keepIn K (.ref f_divisor_by_rests) = true)
    (a_divisor_of_both : PySem.W.nsIn K mainGlobals "divisor_of_both" = some (some (.ref f_divisor_of_both)))
    (l_divisor_of_both : K.lookup f_divisor_of_both = some ⟨oc_divisor_of_both, od_divisor_of_both, .func (PySem.W.fnOf "divisor_of_both" "divisor_of_both" (defArgs s_divisor_of_both) (defBody s_divisor_of_both) (defScope s_divisor_of_both) .none kV_divisor_of_both dc_divisor_of_both pm_divisor_of_both an_divisor_of_both cd_divisor_of_both ct_divisor_of_both), sl_divisor_of_both⟩)
    (c_divisor_of_both : PySem.W.codeIn K cd_divisor_of_both "divisor_of_both" = true)
    (k_divisor_of_both : PySem.W.keepIn K (.ref f_divisor_of_both) = true)
    (a_is_polynomial : PySem.W.nsIn K mainGlobals "is_polynomial" = some (some (.ref f_is_polynomial)))
    (l_is_polynomial : K.lookup f_is_polynomial = some ⟨oc_is_polynomial, od_is_polynomial, .func (PySem.W.fnOf "is_polynomial" "is_polynomial" (defArgs s_is_polynomial) (defBody s_is_polynomial) (defScope s_is_polynomial) .none kV_is_polynomial dc_is_polynomial pm_is_polynomial an_is_polynomial cd_is_polynomial ct_is_polynomial), sl_is_polynomial⟩)
    (c_is_polynomial : PySem.W.codeIn K cd_is_polynomial "is_polynomial" = true)
    (k_is_polynomial : PySem.W.keepIn K (.ref f_is_polynomial) = true)
    (a_check_polynomial : PySem.W.nsIn K mainGlobals "check_polynomial" = some (some (.ref f_check_polynomial)))
    (l_check_polynomial : K.lookup f_check_polynomial = some ⟨oc_check_polynomial, od_check_polynomial, .func (PySem.W.fnOf "check_polynomial" "check_polynomial" (defArgs s_check_polynomial) (defBody s_check_polynomial) (defScope s_check_polynomial) .none kV_check_polynomial dc_check_polynomial pm_check_polynomial an_check_polynomial cd_check_polynomial ct_check_polynomial), sl_check_polynomial⟩)
    (c_check_polynomial : PySem.W.codeIn K cd_check_polynomial "check_polynomial" = true)
    (k_check_polynomial : PySem.W.keepIn K (.ref f_check_polynomial) = true)
    (a_check_fraction : PySem.W.nsIn K mainGlobals "check_fraction" = some (some (.ref f_check_fraction)))
    (l_check_fraction : K.lookup f_check_fraction = some ⟨oc_check_fraction, od_check_fraction, .func (PySem.W.fnOf "check_fraction" "check_fraction" (defArgs s_check_fraction) (defBody s_check_fraction) (defScope s_check_fraction) .none kV_check_fraction dc_check_fraction pm_check_fraction an_check_fraction cd_check_fraction ct_check_fraction), sl_check_fraction⟩)
    (c_check_fraction : PySem.W.codeIn K cd_check_fraction "check_fraction" = true)
    (k_check_fraction : PySem.W.keepIn K (.ref f_check_fraction) = true)
    (a_value_at : PySem.W.nsIn K mainGlobals "value_at" = some (some (.ref f_value_at)))
    (l_value_at : K.lookup f_value_at = some ⟨oc_value_at, od_value_at, .func (PySem.W.fnOf "value_at" "value_at" (defArgs s_value_at) (defBody s_value_at) (defScope s_value_at) .none kV_value_at dc_value_at pm_value_at an_value_at cd_value_at ct_value_at), sl_value_at⟩)
    (c_value_at : PySem.W.codeIn K cd_value_at "value_at" = true)
    (k_value_at : PySem.W.keepIn K (.ref f_value_at) = true)
    (a_common_divisor : PySem.W.nsIn K mainGlobals "common_divisor" = some (some (.ref f_common_divisor)))
    (l_common_divisor : K.lookup f_common_divisor = some ⟨oc_common_divisor, od_common_divisor, .func (PySem.W.fnOf "common_divisor" "common_divisor" (defArgs s_common_divisor) (defBody s_common_divisor) (defScope s_common_divisor) .none kV_common_divisor dc_common_divisor pm_common_divisor an_common_divisor cd_common_divisor ct_common_divisor), sl_common_divisor⟩)
    (c_common_divisor : PySem.W.codeIn K cd_common_divisor "common_divisor" = true)
    (k_common_divisor : PySem.W.keepIn K (.ref f_common_divisor) = true)
    (a__law_well : PySem.W.nsIn K mainGlobals "_law_well" = some (some (.ref f__law_well)))
    (l__law_well : K.lookup f__law_well = some ⟨oc__law_well, od__law_well, .func (PySem.W.fnOf "_law_well" "_law_well" (defArgs s__law_well) (defBody s__law_well) (defScope s__law_well) .none kV__law_well dc__law_well pm__law_well an__law_well cd__law_well ct__law_well), sl__law_well⟩)
    (c__law_well : PySem.W.codeIn K cd__law_well "_law_well" = true)
    (k__law_well : PySem.W.keepIn K (.ref f__law_well) = true)
    (a__law_pull : PySem.W.nsIn K mainGlobals "_law_pull" = some (some (.ref f__law_pull)))
    (l__law_pull : K.lookup f__law_pull = some ⟨oc__law_pull, od__law_pull, .func (PySem.W.fnOf "_law_pull" "_law_pull" (defArgs s__law_pull) (defBody s__law_pull) (defScope s__law_pull) .none kV__law_pull dc__law_pull pm__law_pull an__law_pull cd__law_pull ct__law_pull), sl__law_pull⟩)
    (c__law_pull : PySem.W.codeIn K cd__law_pull "_law_pull" = true)
    (k__law_pull : PySem.W.keepIn K (.ref f__law_pull) = true)
    (a__law_one : PySem.W.nsIn K mainGlobals "_law_one" = some (some (.ref f__law_one)))
    (l__law_one : K.lookup f__law_one = some ⟨oc__law_one, od__law_one, .func (PySem.W.fnOf "_law_one" "_law_one" (defArgs s__law_one) (defBody s__law_one) (defScope s__law_one) .none kV__law_one dc__law_one pm__law_one an__law_one cd__law_one ct__law_one), sl__law_one⟩)
    (c__law_one : PySem.W.codeIn K cd__law_one "_law_one" = true)
    (k__law_one : PySem.W.keepIn K (.ref f__law_one) = true)
    (a__law_gcd : PySem.W.nsIn K mainGlobals "_law_gcd" = some (some (.ref f__law_gcd)))
    (l__law_gcd : K.lookup f__law_gcd = some ⟨oc__law_gcd, od__law_gcd, .func (PySem.W.fnOf "_law_gcd" "_law_gcd" (defArgs s__law_gcd) (defBody s__law_gcd) (defScope s__law_gcd) .none kV__law_gcd dc__law_gcd pm__law_gcd an__law_gcd cd__law_gcd ct__law_gcd), sl__law_gcd⟩)
    (c__law_gcd : PySem.W.codeIn K cd__law_gcd "_law_gcd" = true)
    (k__law_gcd : PySem.W.keepIn K (.ref f__law_gcd) = true)
    (a__law_cut : PySem.W.nsIn K mainGlobals "_law_cut" = some (some (.ref f__law_cut)))
    (l__law_cut : K.lookup f__law_cut = some ⟨oc__law_cut, od__law_cut, .func (PySem.W.fnOf "_law_cut" "_law_cut" (defArgs s__law_cut) (defBody s__law_cut) (defScope s__law_cut) .none kV__law_cut dc__law_cut pm__law_cut an__law_cut cd__law_cut ct__law_cut), sl__law_cut⟩)
    (c__law_cut : PySem.W.codeIn K cd__law_cut "_law_cut" = true)
    (k__law_cut : PySem.W.keepIn K (.ref f__law_cut) = true)
    (a__law_add : PySem.W.nsIn K mainGlobals "_law_add" = some (some (.ref f__law_add)))
    (l__law_add : K.lookup f__law_add = some ⟨oc__law_add, od__law_add, .func (PySem.W.fnOf "_law_add" "_law_add" (defArgs s__law_add) (defBody s__law_add) (defScope s__law_add) .none kV__law_add dc__law_add pm__law_add an__law_add cd__law_add ct__law_add), sl__law_add⟩)
    (c__law_add : PySem.W.codeIn K cd__law_add "_law_add" = true)
    (k__law_add : PySem.W.keepIn K (.ref f__law_add) = true)
    (a__law_by : PySem.W.nsIn K mainGlobals "_law_by" = some (some (.ref f__law_by)))
    (l__law_by : K.lookup f__law_by = some ⟨oc__law_by, od__law_by, .func (PySem.W.fnOf "_law_by" "_law_by" (defArgs s__law_by) (defBody s__law_by) (defScope s__law_by) .none kV__law_by dc__law_by pm__law_by an__law_by cd__law_by ct__law_by), sl__law_by⟩)
    (c__law_by : PySem.W.codeIn K cd__law_by "_law_by" = true)
    (k__law_by : PySem.W.keepIn K (.ref f__law_by) = true)
    (a__law_amount : PySem.W.nsIn K mainGlobals "_law_amount" = some (some (.ref f__law_amount)))
    (l__law_amount : K.lookup f__law_amount = some ⟨oc__law_amount, od__law_amount, .func (PySem.W.fnOf "_law_amount" "_law_amount" (defArgs s__law_amount) (defBody s__law_amount) (defScope s__law_amount) .none kV__law_amount dc__law_amount pm__law_amount an__law_amount cd__law_amount ct__law_amount), sl__law_amount⟩)
    (c__law_amount : PySem.W.codeIn K cd__law_amount "_law_amount" = true)
    (k__law_amount : PySem.W.keepIn K (.ref f__law_amount) = true)
    (a__law_any_fraction : PySem.W.nsIn K mainGlobals "_law_any_fraction" = some (some (.ref f__law_any_fraction)))
    (l__law_any_fraction : K.lookup f__law_any_fraction = some ⟨oc__law_any_fraction, od__law_any_fraction, .func (PySem.W.fnOf "_law_any_fraction" "_law_any_fraction" (defArgs s__law_any_fraction) (defBody s__law_any_fraction) (defScope s__law_any_fraction) .none kV__law_any_fraction dc__law_any_fraction pm__law_any_fraction an__law_any_fraction cd__law_any_fraction ct__law_any_fraction), sl__law_any_fraction⟩)
    (c__law_any_fraction : PySem.W.codeIn K cd__law_any_fraction "_law_any_fraction" = true)
    (k__law_any_fraction : PySem.W.keepIn K (.ref f__law_any_fraction) = true)
    (a__law_trim : PySem.W.nsIn K mainGlobals "_law_trim" = some (some (.ref f__law_trim)))
    (l__law_trim : K.lookup f__law_trim = some ⟨oc__law_trim, od__law_trim, .func (PySem.W.fnOf "_law_trim" "_law_trim" (defArgs s__law_trim) (defBody s__law_trim) (defScope s__law_trim) .none kV__law_trim dc__law_trim pm__law_trim an__law_trim cd__law_trim ct__law_trim), sl__law_trim⟩)
    (c__law_trim : PySem.W.codeIn K cd__law_trim "_law_trim" = true)
    (k__law_trim : PySem.W.keepIn K (.ref f__law_trim) = true)
    (a__law_product : PySem.W.nsIn K mainGlobals "_law_product" = some (some (.ref f__law_product)))
    (l__law_product : K.lookup f__law_product = some ⟨oc__law_product, od__law_product, .func (PySem.W.fnOf "_law_product" "_law_product" (defArgs s__law_product) (defBody s__law_product) (defScope s__law_product) .none kV__law_product dc__law_product pm__law_product an__law_product cd__law_product ct__law_product), sl__law_product⟩)
    (c__law_product : PySem.W.codeIn K cd__law_product "_law_product" = true)
    (k__law_product : PySem.W.keepIn K (.ref f__law_product) = true)
    (a__law_light : PySem.W.nsIn K mainGlobals "_law_light" = some (some (.ref f__law_light)))
    (l__law_light : K.lookup f__law_light = some ⟨oc__law_light, od__law_light, .func (PySem.W.fnOf "_law_light" "_law_light" (defArgs s__law_light) (defBody s__law_light) (defScope s__law_light) .none kV__law_light dc__law_light pm__law_light an__law_light cd__law_light ct__law_light), sl__law_light⟩)
    (c__law_light : PySem.W.codeIn K cd__law_light "_law_light" = true)
    (k__law_light : PySem.W.keepIn K (.ref f__law_light) = true)
    (a__law_upright : PySem.W.nsIn K mainGlobals "_law_upright" = some (some (.ref f__law_upright)))
    (l__law_upright : K.lookup f__law_upright = some ⟨oc__law_upright, od__law_upright, .func (PySem.W.fnOf "_law_upright" "_law_upright" (defArgs s__law_upright) (defBody s__law_upright) (defScope s__law_upright) .none kV__law_upright dc__law_upright pm__law_upright an__law_upright cd__law_upright ct__law_upright), sl__law_upright⟩)
    (c__law_upright : PySem.W.codeIn K cd__law_upright "_law_upright" = true)
    (k__law_upright : PySem.W.keepIn K (.ref f__law_upright) = true)
    (a__law_roots_built : PySem.W.nsIn K mainGlobals "_law_roots_built" = some (some (.ref f__law_roots_built)))
    (l__law_roots_built : K.lookup f__law_roots_built = some ⟨oc__law_roots_built, od__law_roots_built, .func (PySem.W.fnOf "_law_roots_built" "_law_roots_built" (defArgs s__law_roots_built) (defBody s__law_roots_built) (defScope s__law_roots_built) .none kV__law_roots_built dc__law_roots_built pm__law_roots_built an__law_roots_built cd__law_roots_built ct__law_roots_built), sl__law_roots_built⟩)
    (c__law_roots_built : PySem.W.codeIn K cd__law_roots_built "_law_roots_built" = true)
    (k__law_roots_built : PySem.W.keepIn K (.ref f__law_roots_built) = true)
    (a__law_built : PySem.W.nsIn K mainGlobals "_law_built" = some (some (.ref f__law_built)))
    (l__law_built : K.lookup f__law_built = some ⟨oc__law_built, od__law_built, .func (PySem.W.fnOf "_law_built" "_law_built" (defArgs s__law_built) (defBody s__law_built) (defScope s__law_built) .none kV__law_built dc__law_built pm__law_built an__law_built cd__law_built ct__law_built), sl__law_built⟩)
    (c__law_built : PySem.W.codeIn K cd__law_built "_law_built" = true)
    (k__law_built : PySem.W.keepIn K (.ref f__law_built) = true)
    (a__law_value : PySem.W.nsIn K mainGlobals "_law_value" = some (some (.ref f__law_value)))
    (l__law_value : K.lookup f__law_value = some ⟨oc__law_value, od__law_value, .func (PySem.W.fnOf "_law_value" "_law_value" (defArgs s__law_value) (defBody s__law_value) (defScope s__law_value) .none kV__law_value dc__law_value pm__law_value an__law_value cd__law_value ct__law_value), sl__law_value⟩)
    (c__law_value : PySem.W.codeIn K cd__law_value "_law_value" = true)
    (k__law_value : PySem.W.keepIn K (.ref f__law_value) = true)
    (a__law_bent : PySem.W.nsIn K mainGlobals "_law_bent" = some (some (.ref f__law_bent)))
    (l__law_bent : K.lookup f__law_bent = some ⟨oc__law_bent, od__law_bent, .func (PySem.W.fnOf "_law_bent" "_law_bent" (defArgs s__law_bent) (defBody s__law_bent) (defScope s__law_bent) .none kV__law_bent dc__law_bent pm__law_bent an__law_bent cd__law_bent ct__law_bent), sl__law_bent⟩)
    (c__law_bent : PySem.W.codeIn K cd__law_bent "_law_bent" = true)
    (k__law_bent : PySem.W.keepIn K (.ref f__law_bent) = true)
    (a__law_right : PySem.W.nsIn K mainGlobals "_law_right" = some (some (.ref f__law_right)))
    (l__law_right : K.lookup f__law_right = some ⟨oc__law_right, od__law_right, .func (PySem.W.fnOf "_law_right" "_law_right" (defArgs s__law_right) (defBody s__law_right) (defScope s__law_right) .none kV__law_right dc__law_right pm__law_right an__law_right cd__law_right ct__law_right), sl__law_right⟩)
    (c__law_right : PySem.W.codeIn K cd__law_right "_law_right" = true)
    (k__law_right : PySem.W.keepIn K (.ref f__law_right) = true)
    (a_law : PySem.W.nsIn K mainGlobals "law" = some (some (.ref f_law)))
    (l_law : K.lookup f_law = some ⟨oc_law, od_law, .func (PySem.W.fnOf "law" "law" (defArgs s_law) (defBody s_law) (defScope s_law) .none kV_law dc_law pm_law an_law cd_law ct_law), sl_law⟩)
    (c_law : PySem.W.codeIn K cd_law "law" = true)
    (k_law : PySem.W.keepIn K (.ref f_law) = true)
    (q_PRIME_BITS : PySem.W.nsIn K mainGlobals "PRIME_BITS" = some (some (.ref k_PRIME_BITS))) (l_PRIME_BITS : K.lookup k_PRIME_BITS = some ⟨.type "tuple", od_PRIME_BITS, .seq #[.int 127 ta0_PRIME_BITS, .int 521 ta1_PRIME_BITS, .int 1279 ta2_PRIME_BITS, .int 2203 ta3_PRIME_BITS, .int 4253 ta4_PRIME_BITS, .int 9689 ta5_PRIME_BITS, .int 19937 ta6_PRIME_BITS, .int 44497 ta7_PRIME_BITS] n_PRIME_BITS, sl_PRIME_BITS⟩)
    (q_abs : PySem.W.nsIn K mainGlobals "abs" = some none)
    (q_all : PySem.W.nsIn K mainGlobals "all" = some none)
    (q_any : PySem.W.nsIn K mainGlobals "any" = some none)
    (q_bool : PySem.W.nsIn K mainGlobals "bool" = some none)
    (q_divmod : PySem.W.nsIn K mainGlobals "divmod" = some none)
    (q_enumerate : PySem.W.nsIn K mainGlobals "enumerate" = some none)
    (q_gcd : PySem.W.nsIn K mainGlobals "gcd" = some (some (.builtin "math.gcd")))
    (q_int : PySem.W.nsIn K mainGlobals "int" = some none)
    (q_isinstance : PySem.W.nsIn K mainGlobals "isinstance" = some none)
    (q_len : PySem.W.nsIn K mainGlobals "len" = some none)
    (q_list : PySem.W.nsIn K mainGlobals "list" = some none)
    (q_range : PySem.W.nsIn K mainGlobals "range" = some none)
    (q_repr : PySem.W.nsIn K mainGlobals "repr" = some none)
    (q_reversed : PySem.W.nsIn K mainGlobals "reversed" = some none)
    (q_sum : PySem.W.nsIn K mainGlobals "sum" = some none)
    (q_tuple : PySem.W.nsIn K mainGlobals "tuple" = some none) :
    ∃ fd : FuncData, (∀ (s : Shared) (v : Value), BindsTo s fd ⟨[v], []⟩ [("_law_script", v)]) ∧ ∀ base : Heap, K.In base → base.Ns mainGlobals mg → FnG l.prog w K mg base 8 fa fd ["_law_script"] (sp_law K) := by
  have e := hfa.symm.trans (PySem.W.mg_of X G a_law)
  cases e
  have T : { T : Tx K mg // T.a_law = fa ∧ T.d_law = PySem.W.fnOf "law" "law" (defArgs s_law) (defBody s_law) (defScope s_law) .none kV_law dc_law pm_law an_law cd_law ct_law } := ⟨{ a_is_whole := f_is_whole, d_is_whole := _, F_is_whole := fun_mk l_is_whole c_is_whole k_is_whole, g_is_whole := PySem.W.mg_of X G a_is_whole, a_is_fraction := f_is_fraction, d_is_fraction := _, F_is_fraction := fun_mk l_is_fraction c_is_fraction k_is_fraction, g_is_fraction := PySem.W.mg_of X G a_is_fraction, a_lowest := f_lowest, d_lowest := _, F_lowest := fun_mk l_lowest c_lowest k_lowest, g_lowest := PySem.W.mg_of X G a_lowest, a_inverse_modulo := f_inverse_modulo, d_inverse_modulo := _, F_inverse_modulo := fun_mk l_inverse_modulo c_inverse_modulo k_inverse_modulo, g_inverse_modulo := PySem.W.mg_of X G a_inverse_modulo, a_trimmed := f_trimmed, d_trimmed := _, F_trimmed := fun_mk l_trimmed c_trimmed k_trimmed, g_trimmed := PySem.W.mg_of X G a_trimmed, a_blend := f_blend, d_blend := _, F_blend := fun_mk l_blend c_blend k_blend, g_blend := PySem.W.mg_of X G a_blend, a_content := f_content, d_content := _, F_content := fun_mk l_content c_content k_content, g_content := PySem.W.mg_of X G a_content, a_shrunk := f_shrunk, d_shrunk := _, F_shrunk := fun_mk l_shrunk c_shrunk k_shrunk, g_shrunk := PySem.W.mg_of X G a_shrunk, a_thinned := f_thinned, d_thinned := _, F_thinned := fun_mk l_thinned c_thinned k_thinned, g_thinned := PySem.W.mg_of X G a_thinned, a_reduced := f_reduced, d_reduced := _, F_reduced := fun_mk l_reduced c_reduced k_reduced, g_reduced := PySem.W.mg_of X G a_reduced, a_whole_quotient := f_whole_quotient, d_whole_quotient := _, F_whole_quotient := fun_mk l_whole_quotient c_whole_quotient k_whole_quotient, g_whole_quotient := PySem.W.mg_of X G a_whole_quotient, a_scaled_value := f_scaled_value, d_scaled_value := _, F_scaled_value := fun_mk l_scaled_value c_scaled_value k_scaled_value, g_scaled_value := PySem.W.mg_of X G a_scaled_value, a_fraction_value := f_fraction_value, d_fraction_value := _, F_fraction_value := fun_mk l_fraction_value c_fraction_value k_fraction_value, g_fraction_value := PySem.W.mg_of X G a_fraction_value, a_rest_modulo := f_rest_modulo, d_rest_modulo := _, F_rest_modulo := fun_mk l_rest_modulo c_rest_modulo k_rest_modulo, g_rest_modulo := PySem.W.mg_of X G a_rest_modulo, a_divisor_modulo := f_divisor_modulo, d_divisor_modulo := _, F_divisor_modulo := fun_mk l_divisor_modulo c_divisor_modulo k_divisor_modulo, g_divisor_modulo := PySem.W.mg_of X G a_divisor_modulo, a_guessed_divisor := f_guessed_divisor, d_guessed_divisor := _, F_guessed_divisor := fun_mk l_guessed_divisor c_guessed_divisor k_guessed_divisor, g_guessed_divisor := PySem.W.mg_of X G a_guessed_divisor, a_divisor_by_rests := f_divisor_by_rests, d_divisor_by_rests := _, F_divisor_by_rests := fun_mk l_divisor_by_rests c_divisor_by_rests k_divisor_by_rests, g_divisor_by_rests := PySem.W.mg_of X G a_divisor_by_rests, a_divisor_of_both := f_divisor_of_both, d_divisor_of_both := _, F_divisor_of_both := fun_mk l_divisor_of_both c_divisor_of_both k_divisor_of_both, g_divisor_of_both := PySem.W.mg_of X G a_divisor_of_both, a_is_polynomial := f_is_polynomial, d_is_polynomial := _, F_is_polynomial := fun_mk l_is_polynomial c_is_polynomial k_is_polynomial, g_is_polynomial := PySem.W.mg_of X G a_is_polynomial, a_check_polynomial := f_check_polynomial, d_check_polynomial := _, F_check_polynomial := fun_mk l_check_polynomial c_check_polynomial k_check_polynomial, g_check_polynomial := PySem.W.mg_of X G a_check_polynomial, a_check_fraction := f_check_fraction, d_check_fraction := _, F_check_fraction := fun_mk l_check_fraction c_check_fraction k_check_fraction, g_check_fraction := PySem.W.mg_of X G a_check_fraction, a_value_at := f_value_at, d_value_at := _, F_value_at := fun_mk l_value_at c_value_at k_value_at, g_value_at := PySem.W.mg_of X G a_value_at, a_common_divisor := f_common_divisor, d_common_divisor := _, F_common_divisor := fun_mk l_common_divisor c_common_divisor k_common_divisor, g_common_divisor := PySem.W.mg_of X G a_common_divisor, a__law_well := f__law_well, d__law_well := _, F__law_well := fun_mk l__law_well c__law_well k__law_well, g__law_well := PySem.W.mg_of X G a__law_well, a__law_pull := f__law_pull, d__law_pull := _, F__law_pull := fun_mk l__law_pull c__law_pull k__law_pull, g__law_pull := PySem.W.mg_of X G a__law_pull, a__law_one := f__law_one, d__law_one := _, F__law_one := fun_mk l__law_one c__law_one k__law_one, g__law_one := PySem.W.mg_of X G a__law_one, a__law_gcd := f__law_gcd, d__law_gcd := _, F__law_gcd := fun_mk l__law_gcd c__law_gcd k__law_gcd, g__law_gcd := PySem.W.mg_of X G a__law_gcd, a__law_cut := f__law_cut, d__law_cut := _, F__law_cut := fun_mk l__law_cut c__law_cut k__law_cut, g__law_cut := PySem.W.mg_of X G a__law_cut, a__law_add := f__law_add, d__law_add := _, F__law_add := fun_mk l__law_add c__law_add k__law_add, g__law_add := PySem.W.mg_of X G a__law_add, a__law_by := f__law_by, d__law_by := _, F__law_by := fun_mk l__law_by c__law_by k__law_by, g__law_by := PySem.W.mg_of X G a__law_by, a__law_amount := f__law_amount, d__law_amount := _, F__law_amount := fun_mk l__law_amount c__law_amount k__law_amount, g__law_amount := PySem.W.mg_of X G a__law_amount, a__law_any_fraction := f__law_any_fraction, d__law_any_fraction := _, F__law_any_fraction := fun_mk l__law_any_fraction c__law_any_fraction k__law_any_fraction, g__law_any_fraction := PySem.W.mg_of X G a__law_any_fraction, a__law_trim := f__law_trim, d__law_trim := _, F__law_trim := fun_mk l__law_trim c__law_trim k__law_trim, g__law_trim := PySem.W.mg_of X G a__law_trim, a__law_product := f__law_product, d__law_product := _, F__law_product := fun_mk l__law_product c__law_product k__law_product, g__law_product := PySem.W.mg_of X G a__law_product, a__law_light := f__law_light, d__law_light := _, F__law_light := fun_mk l__law_light c__law_light k__law_light, g__law_light := PySem.W.mg_of X G a__law_light, a__law_upright := f__law_upright, d__law_upright := _, F__law_upright := fun_mk l__law_upright c__law_upright k__law_upright, g__law_upright := PySem.W.mg_of X G a__law_upright, a__law_roots_built := f__law_roots_built, d__law_roots_built := _, F__law_roots_built := fun_mk l__law_roots_built c__law_roots_built k__law_roots_built, g__law_roots_built := PySem.W.mg_of X G a__law_roots_built, a__law_built := f__law_built, d__law_built := _, F__law_built := fun_mk l__law_built c__law_built k__law_built, g__law_built := PySem.W.mg_of X G a__law_built, a__law_value := f__law_value, d__law_value := _, F__law_value := fun_mk l__law_value c__law_value k__law_value, g__law_value := PySem.W.mg_of X G a__law_value, a__law_bent := f__law_bent, d__law_bent := _, F__law_bent := fun_mk l__law_bent c__law_bent k__law_bent, g__law_bent := PySem.W.mg_of X G a__law_bent, a__law_right := f__law_right, d__law_right := _, F__law_right := fun_mk l__law_right c__law_right k__law_right, g__law_right := PySem.W.mg_of X G a__law_right, a_law := fa, d_law := _, F_law := fun_mk l_law c_law k_law, g_law := PySem.W.mg_of X G a_law, k_PRIME_BITS := k_PRIME_BITS, c_PRIME_BITS := PySem.W.mg_of X G q_PRIME_BITS, v_PRIME_BITS := ct_ints (ps := [(127, ta0_PRIME_BITS), (521, ta1_PRIME_BITS), (1279, ta2_PRIME_BITS), (2203, ta3_PRIME_BITS), (4253, ta4_PRIME_BITS), (9689, ta5_PRIME_BITS), (19937, ta6_PRIME_BITS), (44497, ta7_PRIME_BITS)]) l_PRIME_BITS (by simp), n_abs := PySem.W.mg_none_of X G q_abs, n_all := PySem.W.mg_none_of X G q_all, n_any := PySem.W.mg_none_of X G q_any, n_bool := PySem.W.mg_none_of X G q_bool, n_divmod := PySem.W.mg_none_of X G q_divmod, n_enumerate := PySem.W.mg_none_of X G q_enumerate, l_gcd := PySem.W.mg_of X G q_gcd, n_int := PySem.W.mg_none_of X G q_int, n_isinstance := PySem.W.mg_none_of X G q_isinstance, n_len := PySem.W.mg_none_of X G q_len, n_list := PySem.W.mg_none_of X G q_list, n_range := PySem.W.mg_none_of X G q_range, n_repr := PySem.W.mg_none_of X G q_repr, n_reversed := PySem.W.mg_none_of X G q_reversed, n_sum := PySem.W.mg_none_of X G q_sum, n_tuple := PySem.W.mg_none_of X G q_tuple }, rfl, rfl⟩
  obtain ⟨T, e1, e2⟩ := T
  refine ⟨T.d_law, fun s v => by rw [e2]; exact .of_eq rfl, fun base _ _ => ?_⟩
  have := ok_law (P := l.prog) (w := w) (base := base) T
  rw [e1] at this
  exact this
theorem walk {l : PySem.W.OpenLaw} {q : Program} {loose : List Str} {XP : (Str → Option Value) → Heap → Prop} {YP : World → Heap → Prop} {d : DefRec} {K : Params → PySem.W.Frag} (hn : l.most = some 63) (hdf : d.params.defaults = [])
    (hY : ∀ (w : World) (h : Heap), YP w h → (K w.params).In h)
    (F : ∀ (w : World) (mg : Str → Option Value) (fa : Addr) (h : Heap), (K w.params).In h → h.Ns mainGlobals mg → mg d.name = some (.ref fa) →
      ∃ fd : FuncData, (∀ (s : Shared) (u : Value), BindsTo s fd ⟨[u], []⟩ [("_law_script", u)]) ∧ ∀ base : Heap, (K w.params).In base → base.Ns mainGlobals mg → FnG l.prog w (K w.params) mg base 8 fa fd ["_law_script"] (sp_law (K w.params))) :
    PySem.W.WalkO q loose XP YP l.row.toRowW d [] (fun f vs => PySem.call f vs) :=
  DL.walk_ofG (n := 63) (k := 8) (x := "_law_script") (sp := sp_law) hn (by decide) hdf ⟨rfl, by decide, by decide⟩ hY F (fun _ _ a ns hl hS => ⟨a, ns, rfl, hS, hl, fun _ => rfl⟩)
end Law
open PySem PySem.W PyProof.Rows
set_option maxRecDepth 100000 in
set_option maxHeartbeats 0 in
theorem PySem.Challenge.cw_shaftshakes_k02_whole_values_and_common_holds : PySem.Challenge.rw_shaftshakes_k02_whole_values_and_common.Holds := by
  w_on; o_law; k_head; (case hw => w_witness2)
  k_fill
  refine Law.walk (l := PySem.Challenge.rw_shaftshakes_k02_whole_values_and_common) rfl rfl (fun w h Y => PySem.W.kIn_of Y) ?F
  case F =>
    intro w mg fa h KX G hmg
    refine' Law.all_mk KX G hmg ?a_is_whole ?l_is_whole ?c_is_whole ?k_is_whole ?a_is_fraction ?l_is_fraction ?c_is_fraction ?k_is_fraction ?a_lowest ?l_lowest ?c_lowest ?k_lowest ?a_inverse_modulo ?l_inverse_modulo ?c_inverse_modulo ?k_inverse_modulo ?a_trimmed ?l_trimmed ?c_trimmed ?k_trimmed ?a_blend ?l_blend ?c_blend ?k_blend ?a_content ?l_content ?c_content ?k_content ?a_shrunk ?l_shrunk ?c_shrunk ?k_shrunk ?a_thinned ?l_thinned ?c_thinned ?k_thinned ?a_reduced ?l_reduced ?c_reduced ?k_reduced ?a_whole_quotient ?l_whole_quotient ?c_whole_quotient ?k_whole_quotient ?a_scaled_value ?l_scaled_value ?c_scaled_value ?k_scaled_value ?a_fraction_value ?l_fraction_value ?c_fraction_value ?k_fraction_value ?a_rest_modulo ?l_rest_modulo ?c_rest_modulo ?k_rest_modulo ?a_divisor_modulo ?l_divisor_modulo ?c_divisor_modulo ?k_divisor_modulo ?a_guessed_divisor ?l_guessed_divisor ?c_guessed_divisor ?k_guessed_divisor ?a_divisor_by_rests ?l_divisor_by_rests ?c_divisor_by_rests ?k_divisor_by_rests ?a_divisor_of_both ?l_divisor_of_both ?c_divisor_of_both ?k_divisor_of_both ?a_is_polynomial ?l_is_polynomial ?c_is_polynomial ?k_is_polynomial ?a_check_polynomial ?l_check_polynomial ?c_check_polynomial ?k_check_polynomial ?a_check_fraction ?l_check_fraction ?c_check_fraction ?k_check_fraction ?a_value_at ?l_value_at ?c_value_at ?k_value_at ?a_common_divisor ?l_common_divisor ?c_common_divisor ?k_common_divisor ?a__law_well ?l__law_well ?c__law_well ?k__law_well ?a__law_pull ?l__law_pull ?c__law_pull ?k__law_pull ?a__law_one ?l__law_one ?c__law_one ?k__law_one ?a__law_gcd ?l__law_gcd ?c__law_gcd ?k__law_gcd ?a__law_cut ?l__law_cut ?c__law_cut ?k__law_cut ?a__law_add ?l__law_add ?c__law_add ?k__law_add ?a__law_by ?l__law_by ?c__law_by ?k__law_by ?a__law_amount ?l__law_amount ?c__law_amount ?k__law_amount ?a__law_any_fraction ?l__law_any_fraction ?c__law_any_fraction ?k__law_any_fraction ?a__law_trim ?l__law_trim ?c__law_trim ?k__law_trim ?a__law_product ?l__law_product ?c__law_product ?k__law_product ?a__law_light ?l__law_light ?c__law_light ?k__law_light ?a__law_upright ?l__law_upright ?c__law_upright ?k__law_upright ?a__law_roots_built ?l__law_roots_built ?c__law_roots_built ?k__law_roots_built ?a__law_built ?l__law_built ?c__law_built ?k__law_built ?a__law_value ?l__law_value ?c__law_value ?k__law_value ?a__law_bent ?l__law_bent ?c__law_bent ?k__law_bent ?a__law_right ?l__law_right ?c__law_right ?k__law_right ?a_law ?l_law ?c_law ?k_law ?q_PRIME_BITS ?l_PRIME_BITS ?q_abs ?q_all ?q_any ?q_bool ?q_divmod ?q_enumerate ?q_gcd ?q_int ?q_isinstance ?q_len ?q_list ?q_range ?q_repr ?q_reversed ?q_sum ?q_tuple
    (case a_is_whole => k_is)
    (case l_is_whole => k_is)
    (case c_is_whole => k_is)
    (case k_is_whole => k_is)
    (case a_is_fraction => k_is)
    (case l_is_fraction => k_is)
    (case c_is_fraction => k_is)
    (case k_is_fraction => k_is)
    (case a_lowest => k_is)
    (case l_lowest => k_is)
    (case c_lowest => k_is)
    (case k_lowest => k_is)
    (case a_inverse_modulo => k_is)
    (case l_inverse_modulo => k_is)
    (case c_inverse_modulo => k_is)
    (case k_inverse_modulo => k_is)
    (case a_trimmed => k_is)
    (case l_trimmed => k_is)
    (case c_trimmed => k_is)
    (case k_trimmed => k_is)
    (case a_blend => k_is)
    (case l_blend => k_is)
    (case c_blend => k_is)
    (case k_blend => k_is)
    (case a_content => k_is)
    (case l_content => k_is)
    (case c_content => k_is)
    (case k_content => k_is)
    (case a_shrunk => k_is)
    (case l_shrunk => k_is)
    (case c_shrunk => k_is)
    (case k_shrunk => k_is)
    (case a_thinned => k_is)
    (case l_thinned => k_is)
    (case c_thinned => k_is)
    (case k_thinned => k_is)
    (case a_reduced => k_is)
    (case l_reduced => k_is)
    (case c_reduced => k_is)
    (case k_reduced => k_is)
    (case a_whole_quotient => k_is)
    (case l_whole_quotient => k_is)
    (case c_whole_quotient => k_is)
    (case k_whole_quotient => k_is)
    (case a_scaled_value => k_is)
    (case l_scaled_value => k_is)
    (case c_scaled_value => k_is)
    (case k_scaled_value => k_is)
    (case a_fraction_value => k_is)
    (case l_fraction_value => k_is)
    (case c_fraction_value => k_is)
    (case k_fraction_value => k_is)
    (case a_rest_modulo => k_is)
    (case l_rest_modulo => k_is)
    (case c_rest_modulo => k_is)
    (case k_rest_modulo => k_is)
    (case a_divisor_modulo => k_is)
    (case l_divisor_modulo => k_is)
    (case c_divisor_modulo => k_is)
    (case k_divisor_modulo => k_is)
    (case a_guessed_divisor => k_is)
    (case l_guessed_divisor => k_is)
    (case c_guessed_divisor => k_is)
    (case k_guessed_divisor => k_is)
    (case a_divisor_by_rests => k_is)
    (case l_divisor_by_rests => k_is)
    (case c_divisor_by_rests => k_is)
    (case k_divisor_by_rests => k_is)
    (case a_divisor_of_both => k_is)
    (case l_divisor_of_both => k_is)
    (case c_divisor_of_both => k_is)
    (case k_divisor_of_both => k_is)
    (case a_is_polynomial => k_is)
    (case l_is_polynomial => k_is)
    (case c_is_polynomial => k_is)
    (case k_is_polynomial => k_is)
    (case a_check_polynomial => k_is)
    (case l_check_polynomial => k_is)
    (case c_check_polynomial => k_is)
    (case k_check_polynomial => k_is)
    (case a_check_fraction => k_is)
    (case l_check_fraction => k_is)
    (case c_check_fraction => k_is)
    (case k_check_fraction => k_is)
    (case a_value_at => k_is)
    (case l_value_at => k_is)
    (case c_value_at => k_is)
    (case k_value_at => k_is)
    (case a_common_divisor => k_is)
    (case l_common_divisor => k_is)
    (case c_common_divisor => k_is)
    (case k_common_divisor => k_is)
    (case a__law_well => k_is)
    (case l__law_well => k_is)
    (case c__law_well => k_is)
    (case k__law_well => k_is)
    (case a__law_pull => k_is)
    (case l__law_pull => k_is)
    (case c__law_pull => k_is)
    (case k__law_pull => k_is)
    (case a__law_one => k_is)
    (case l__law_one => k_is)
    (case c__law_one => k_is)
    (case k__law_one => k_is)
    (case a__law_gcd => k_is)
    (case l__law_gcd => k_is)
    (case c__law_gcd => k_is)
    (case k__law_gcd => k_is)
    (case a__law_cut => k_is)
    (case l__law_cut => k_is)
    (case c__law_cut => k_is)
    (case k__law_cut => k_is)
    (case a__law_add => k_is)
    (case l__law_add => k_is)
    (case c__law_add => k_is)
    (case k__law_add => k_is)
    (case a__law_by => k_is)
    (case l__law_by => k_is)
    (case c__law_by => k_is)
    (case k__law_by => k_is)
    (case a__law_amount => k_is)
    (case l__law_amount => k_is)
    (case c__law_amount => k_is)
    (case k__law_amount => k_is)
    (case a__law_any_fraction => k_is)
    (case l__law_any_fraction => k_is)
    (case c__law_any_fraction => k_is)
    (case k__law_any_fraction => k_is)
    (case a__law_trim => k_is)
    (case l__law_trim => k_is)
    (case c__law_trim => k_is)
    (case k__law_trim => k_is)
    (case a__law_product => k_is)
    (case l__law_product => k_is)
    (case c__law_product => k_is)
    (case k__law_product => k_is)
    (case a__law_light => k_is)
    (case l__law_light => k_is)
    (case c__law_light => k_is)
    (case k__law_light => k_is)
    (case a__law_upright => k_is)
    (case l__law_upright => k_is)
    (case c__law_upright => k_is)
    (case k__law_upright => k_is)
    (case a__law_roots_built => k_is)
    (case l__law_roots_built => k_is)
    (case c__law_roots_built => k_is)
    (case k__law_roots_built => k_is)
    (case a__law_built => k_is)
    (case l__law_built => k_is)
    (case c__law_built => k_is)
    (case k__law_built => k_is)
    (case a__law_value => k_is)
    (case l__law_value => k_is)
    (case c__law_value => k_is)
    (case k__law_value => k_is)
    (case a__law_bent => k_is)
    (case l__law_bent => k_is)
    (case c__law_bent => k_is)
    (case k__law_bent => k_is)
    (case a__law_right => k_is)
    (case l__law_right => k_is)
    (case c__law_right => k_is)
    (case k__law_right => k_is)
    (case a_law => k_is)
    (case l_law => k_is)
    (case c_law => k_is)
    (case k_law => k_is)
    (case q_PRIME_BITS => k_is)
    (case l_PRIME_BITS => k_is)
    (case q_abs => k_is)
    (case q_all => k_is)
    (case q_any => k_is)
    (case q_bool => k_is)
    (case q_divmod => k_is)
    (case q_enumerate => k_is)
    (case q_gcd => k_is)
    (case q_int => k_is)
    (case q_isinstance => k_is)
    (case q_len => k_is)
    (case q_list => k_is)
    (case q_range => k_is)
    (case q_repr => k_is)
    (case q_reversed => k_is)
    (case q_sum => k_is)
    (case q_tuple => k_is)
